package trace_test

import (
	"fmt"
	"math/rand"
	"slices"
	"strings"
	"testing"

	"penance/api"
	"penance/check"
	"penance/run"
	"penance/steps"
	"penance/term"
	"penance/trace"
)

const head = "var x 0 var y 0 stack s stack r "

func compile(t *testing.T, main string) api.Core {
	t.Helper()
	c, at, e := check.Compile(head + "proc main { " + main + " } proc loop { do l; call loop } proc turn { do on -> x; do off -> x; call turn }")
	if e != api.OK {
		t.Fatalf("no program: %s: %d, %v", main, at, e)
	}
	return c
}

// events reads "a b=3": b told 3.
func events(s string) (l []api.Event) {
	for i, w := range strings.Fields(s) {
		name, value, _ := strings.Cut(w, "=")
		e := api.Event{Name: name, Key: 100 - i}
		fmt.Sscan(value, &e.Value)
		l = append(l, e)
	}
	return l
}

func TestP901Accepts(t *testing.T) {
	for _, x := range []struct{ main, yes, no string }{
		{"skip", "", "a"},
		{"do a", "|a", "b|a a|a b"},
		{"do a; do b", "|a|a b", "b|b a|a a|a b b"},
		{"par { do a } { do b }", "|a|b|a b|b a", "a a|b b|a b a|c"},
		{"choose { do a } { do b }", "|a|b", "a b|b a"},
		{"choose { do a; do c } { do a; do d }", "a|a c|a d", "a c d|c"},
		{"do a -> x; if x { do b } else { do c }", "a|a=1 b|a=0 c|a c|a=-5 b", "a=1 c|a=0 b|b"},
		{"push s { do a }; push s { do b }; reverse s", "b|b a", "a|a b"},
		{"push s { do a }; do c; accept s; reverse s", "c", "c a|a"},
		{"push s { do a }; push r { do b }; merge s r; reverse s; reverse r", "a|a b", "b"},
		{"block { par { do a; exit } { do b } }; do c", "a c|a b c|b a c|a b|a c", "b c|c|a c b"},
		{"par { exit } { do a }", "|a", "a a"},
		{"call loop", "|l|l l l l l l l l", "l a|a"},
		{"call turn", "|on=1 off on=7", "off|on on"},
		{"x := 1 / 0; do a", "", "a"},
		{"par { x := 1 / x } { do a; do b }", "|a|a b", "b"},
		{"par { do a; x := 5 } { do b; if x == 5 { do c } else { do d } }", "a b c|b a c|b d|b d a|a b d|b a d", "c|d|a c"},
		{"par { do a -> x } { do a -> y }; if x < y { do b } else { do c }", "a=1 a=2 b|a=1 a=2 c|a=2 a=1 b", "a=1 a=1 b|a b"},
	} {
		c := compile(t, x.main)
		for _, s := range strings.Split(x.yes, "|") {
			if is, sure := trace.Accepts(c, events(s), 10000); !is || !sure {
				t.Errorf("P901: %s: %q: %v, %v", x.main, s, is, sure)
			}
		}
		for _, s := range strings.Split(x.no, "|") {
			if is, sure := trace.Accepts(c, events(s), 10000); is || !sure {
				t.Errorf("P901: %s: %q: %v, %v", x.main, s, is, sure)
			}
		}
	}
}

func TestP901Next(t *testing.T) {
	for _, x := range []struct {
		main, told, names string
		done              bool
	}{
		{"skip", "", "", true}, {"skip", "a", "", false}, {"do a", "", "a", false}, {"do a", "a", "", true}, {"do a", "b", "", false},
		{"par { do b } { do a }", "", "a b", false}, {"par { do b } { do a }", "a", "b", false}, {"par { do b } { do a }", "a b", "", true}, {"par { do a } { do a }", "", "a", false},
		{"choose { do b; do c } { do b; do a }", "", "b", false}, {"choose { do b; do c } { do b; do a }", "b", "a c", false}, {"choose { skip } { do a }", "", "a", true},
		{"do z -> x; if x > 3 { do b } else { par { do c } { do a } }", "z=4", "b", false}, {"do z -> x; if x > 3 { do b } else { par { do c } { do a } }", "z=3", "a c", false},
		{"block { par { do a; exit } { do b } }; do c", "a", "b c", false}, {"block { par { do a; exit } { do b } }; do c", "", "a b", false},
		{"call loop", "l l l l l", "l", false}, {"par { call loop } { exit }", "", "l", true}, {"push s { do b }; push s { do a }; reverse s", "", "a", false},
		{"x := 1 % 0; do a", "", "", false}, {"par { x := 1 % 0 } { do a }", "a", "", false},
	} {
		c := compile(t, x.main)
		names, done, sure := trace.Next(c, events(x.told), 10000)
		if strings.Join(names, " ") != x.names || done != x.done || !sure {
			t.Errorf("P901: %s: %q: %v, %v, %v; want %s, %v", x.main, x.told, names, done, sure, x.names, x.done)
		}
	}
}

// No more than most are gone through; those that were met count.
func TestP901Most(t *testing.T) {
	// Met: all; then x := 1 done, then y := 1 done, then do a.
	c := compile(t, "x := 1; y := 1; do a")
	for most, want := range []struct {
		names string
		sure  bool
	}{{"", false}, {"", false}, {"a", false}, {"a", true}, {"a", true}} {
		names, done, sure := trace.Next(c, nil, most)
		if strings.Join(names, " ") != want.names || sure != want.sure || done {
			t.Errorf("P901: most %d: %v, %v, %v", most, names, done, sure)
		}
		is, sure := trace.Accepts(c, nil, most)
		if !is || !sure {
			t.Errorf("P901: most %d: %v, %v", most, is, sure)
		}
		is, sure = trace.Accepts(c, events("a"), most)
		if is != (most >= 3) || sure != (most >= 3) {
			t.Errorf("P901: most %d: a: %v, %v", most, is, sure)
		}
		is, sure = trace.Accepts(c, events("b"), most)
		if is || sure != (most >= 3) {
			t.Errorf("P901: most %d: b: %v, %v", most, is, sure)
		}
	}
	if names, done, sure := trace.Next(compile(t, "skip"), nil, 0); len(names) != 0 || !done || sure {
		t.Errorf("P901: the first one is met: %v, %v, %v", names, done, sure)
	}
	if names, done, sure := trace.Next(compile(t, "par { do b } { do a }"), nil, 0); !slices.Equal(names, []string{"a", "b"}) || done || sure {
		t.Errorf("P901: the first one is met: %v, %v, %v", names, done, sure)
	}
}

// In the order in which they are met, so that what is near is met first.
func TestP901Order(t *testing.T) {
	c := compile(t, "choose { x := 1; x := 2; do a } { do b }")
	for most, want := range []string{"", "b", "b", "b", "a b"} {
		names, _, sure := trace.Next(c, nil, most)
		if strings.Join(names, " ") != want || sure {
			t.Errorf("P901: most %d: %v, %v; want %s", most, names, sure, want)
		}
	}
	if names, _, sure := trace.Next(c, nil, 5); strings.Join(names, " ") != "a b" || !sure {
		t.Errorf("P901: %v, %v", names, sure)
	}
	// Of two that are as near the first one is gone through first.
	c = compile(t, "choose { x := 1; do a } { x := 2; do b }")
	for most, want := range []string{"", "", "a", "a b", "a b", "a b"} {
		names, _, sure := trace.Next(c, nil, most)
		if strings.Join(names, " ") != want || sure != (most == 5) {
			t.Errorf("P901: most %d: %v, %v; want %s", most, names, sure, want)
		}
	}
}

// A state is gone through once, however it was met: six variables set in any order are 64 states.
func TestP901EachOnce(t *testing.T) {
	main := "x := 1"
	vars := ""
	for i := range 5 {
		main = fmt.Sprintf("par { %s } { v%d := 1 }", main, i)
		vars += fmt.Sprintf("var v%d 0 ", i)
	}
	c, _, e := check.Compile(vars + head + "proc main { " + main + " }")
	if e != api.OK {
		t.Fatal(e)
	}
	for most, sure := range map[int]bool{63: false, 64: true} {
		if is, got := trace.Accepts(c, events("a"), most); is || got != sure {
			t.Errorf("P901: most %d: %v, %v", most, is, got)
		}
	}
	// How many steps were done, and what the next key is, are no part of a state.
	c, _, e = check.Compile("proc main { do a; call main }")
	if e != api.OK {
		t.Fatal(e)
	}
	long := events(strings.Repeat("a ", 6000))
	if is, sure := trace.Accepts(c, long, 100000); !is || !sure {
		t.Errorf("P901: %v, %v", is, sure)
	}
	// One with each count of events, behind the action and behind the call: 12001.
	if is, sure := trace.Accepts(c, append(long, events("b")...), 12001); is || !sure {
		t.Errorf("P901: %v, %v", is, sure)
	}
	if is, sure := trace.Accepts(c, append(long, events("b")...), 12000); is || sure {
		t.Errorf("P901: %v, %v", is, sure)
	}
}

// States differ in each of their parts.
func TestP901StatesDiffer(t *testing.T) {
	for main, want := range map[string]string{
		"choose { push s { do a } } { push s { do b } }; reverse s":                                        "a b",
		"choose { push s { do a } } { push r { do a } }; reverse s; do b":                                  "a b",
		"choose { push s { do a -> x } } { push s { do a -> y } }; reverse s; if x { do b } else { do c }": "a",
		"choose { x := 1 } { y := 1 }; if x { do a } else { do b }":                                        "a b",
		"choose { x := 1 } { x := 11 }; if x == 1 { do a } else { do b }":                                  "a b",
		"choose { x := -1; y := 1 } { x := 1; y := -1 }; if x < y { do a } else { do b }":                  "a b",
		"choose { push s { do a }; push s { do b } } { push s { do b }; push s { do a } }; reverse s":      "a b",
		"choose { do aa } { do a }": "a aa",
		"choose { if x + 0 == 0 { do a } else { skip } } { if x + 1 == 0 { skip } else { do b } }": "a b",
	} {
		if names, _, sure := trace.Next(compile(t, main), nil, 1000); strings.Join(names, " ") != want || !sure {
			t.Errorf("P901: %s: %v, %v; want %s", main, names, sure, want)
		}
	}
	c := compile(t, "choose { push s { do a -> x } } { push s { do a -> y } }; reverse s; if x { do b } else { do c }")
	if names, _, _ := trace.Next(c, events("a=1"), 1000); strings.Join(names, " ") != "b c" {
		t.Errorf("P901: %v", names)
	}
}

func randomBody(r *rand.Rand, deep int) string {
	in := func() string { return "{ " + randomBody(r, deep-1) + " }" }
	leaves := []string{"skip", "do a", "do b -> x", "do c -> y", "exit", "x := x + 1", "reverse s", "accept s", "merge s r", "reverse r", "push s { do d }", "push r { do e -> x }", "do a; call loop"}
	if deep == 0 {
		return leaves[r.Intn(len(leaves))]
	}
	switch r.Intn(7) {
	case 0:
		return "block " + in()
	case 1:
		return "if x < 2 " + in() + " else " + in()
	case 2:
		return "choose " + in() + in()
	case 3, 4:
		return "par " + in() + in()
	}
	return in() + "; " + in()
}

// happen picks at random till it ends, or long enough; actions are told late, in any order.
func happen(r *rand.Rand, c api.Core) (l []api.Event, f api.Config) {
	f = run.Begin(c)
	for range 60 {
		w := term.Waits(f.T)
		if n := len(steps.Enabled(f.T)); n > 0 && (len(w) == 0 || r.Intn(3) > 0) {
			g, _, _, e := run.Do(c, f, r.Intn(n))
			if e != api.OK {
				break
			}
			f = g
			continue
		}
		if len(w) == 0 || len(l) > 7 {
			break
		}
		g, told, _ := run.Tell(c, f, w[r.Intn(len(w))], r.Intn(4))
		f, l = g, append(l, told)
	}
	return l, f
}

func TestP902WhatHappenedIsAccepted(t *testing.T) {
	r := rand.New(rand.NewSource(27))
	sures, longs := 0, 0
	for range 400 {
		c := compile(t, randomBody(r, 1+r.Intn(3)))
		l, f := happen(r, c)
		was := fmt.Sprint(l)
		is, sure := trace.Accepts(c, l, 3000)
		if sure && !is {
			t.Fatalf("P902: %v of %v happened", l, c)
		}
		if sure {
			sures++
		}
		if len(l) > 1 {
			longs++
		}
		names, done, sure := trace.Next(c, l, 3000)
		if sure && f.T.Kind == api.TSkip && !done {
			t.Fatalf("P902: %v of %v: it may be done", l, c)
		}
		for _, name := range names {
			if is, _ := trace.Accepts(c, append(l[:len(l):len(l)], api.Event{Name: name}), 100000); !is {
				t.Fatalf("P901: %v of %v, then %s", l, c, name)
			}
		}
		if sure && len(l) > 0 {
			front := l[:len(l)-1]
			if names, _, sure := trace.Next(c, front, 10000); sure && !slices.Contains(names, l[len(l)-1].Name) {
				t.Fatalf("P901: %v of %v: next are %v", l, c, names)
			}
			if is, sure := trace.Accepts(c, append(front[:len(front):len(front)], api.Event{Name: "other"}), 3000); is {
				t.Fatalf("P901: other of %v: %v, %v", c, is, sure)
			}
		}
		if fmt.Sprint(l) != was {
			t.Fatalf("P2: %s is changed", was)
		}
	}
	if sures < 200 || longs < 100 {
		t.Errorf("only %d are sure, %d long", sures, longs)
	}
}

func TestP1Anything(t *testing.T) {
	for _, c := range []api.Core{{}, {Procs: []api.Term{{Kind: 77}}}, {Main: 5}, {Stacks: 1 << 60, Procs: make([]api.Term, 1)}, {Procs: []api.Term{{Kind: api.TWait}}}, {Procs: []api.Term{{Kind: api.TSeq}}}} {
		for _, most := range []int{-1, 0, 9} {
			trace.Accepts(c, events("a"), most)
			trace.Next(c, nil, most)
		}
	}
	c := compile(t, "do a; do b")
	trace.Accepts(c, nil, -1)
	trace.Next(c, nil, -1<<63)
	trace.Accepts(c, []api.Event{{Name: "", Key: -1, Value: 1 << 62}, {}}, 1<<62)
}

func TestP2AnswersAreNew(t *testing.T) {
	c := compile(t, "par { do b } { do a }")
	was := fmt.Sprint(c)
	names, _, _ := trace.Next(c, nil, 10)
	names[0] = "z"
	if again, _, _ := trace.Next(c, nil, 10); again[0] != "a" || fmt.Sprint(c) != was {
		t.Error("P2: answers share memory")
	}
}
