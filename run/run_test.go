package run_test

import (
	"fmt"
	"math"
	"math/rand"
	"strings"
	"testing"

	"penance/api"
	"penance/check"
	"penance/run"
	"penance/stacks"
	"penance/steps"
	"penance/term"
)

var (
	skip = api.Term{}
	exit = api.Term{Kind: api.TExit}
)

func do(name string) api.Term { return api.Term{Kind: api.TDo, Name: name, A: -1} }
func wait(name string, key, b int) api.Term {
	return api.Term{Kind: api.TWait, Name: name, A: key, B: b}
}
func node(kind int, l ...api.Term) api.Term { return api.Term{Kind: kind, L: l} }
func seq(a, b api.Term) api.Term            { return node(api.TSeq, a, b) }
func par(a, b api.Term) api.Term            { return node(api.TPar, a, b) }
func num(n int) api.Expr                    { return api.Expr{Kind: api.ENum, N: n} }

// same holds answers against each other: a nil list and an empty one are the same.
func same(a, b any) bool { return fmt.Sprintf("%+v", a) == fmt.Sprintf("%+v", b) }

func compile(t *testing.T, s string) api.Core {
	t.Helper()
	c, at, e := check.Compile(s)
	if e != api.OK {
		t.Fatalf("no program: %s: %d, %v", s, at, e)
	}
	return c
}

// core makes a program of two variables, two stacks, of main and others.
func core(main api.Term, others ...api.Term) api.Core {
	return api.Core{Vars: []int{5, math.MinInt}, Stacks: 2, Procs: append([]api.Term{main}, others...)}
}

func big(n int) api.Term {
	t := skip
	for range n - 1 {
		t = node(api.TBlock, t)
	}
	return t
}

func TestP801Check(t *testing.T) {
	many := func(n int) []api.Term { return make([]api.Term, n) }
	w := wait("a", 0, -1)
	for i, x := range []struct {
		c    api.Core
		want bool
	}{
		{api.Core{}, false}, {api.Core{Procs: many(1)}, true}, {api.Core{Procs: many(1), Main: 1}, false}, {api.Core{Procs: many(1), Main: -1}, false}, {api.Core{Procs: many(3), Main: 2}, true}, {api.Core{Main: -1}, false},
		{api.Core{Procs: many(20), Main: 19}, true}, {api.Core{Procs: many(21)}, false}, {api.Core{Procs: many(20), Main: 20}, false},
		{api.Core{Procs: many(1), Vars: make([]int, 20)}, true}, {api.Core{Procs: many(1), Vars: make([]int, 21)}, false}, {api.Core{Procs: many(1), Vars: []int{math.MinInt, math.MaxInt}}, true},
		{api.Core{Procs: many(1), Stacks: 10}, true}, {api.Core{Procs: many(1), Stacks: 11}, false}, {api.Core{Procs: many(1), Stacks: -1}, false}, {api.Core{Procs: many(1), Stacks: 1 << 62}, false},
		{core(w), false}, {core(node(api.TBlock, w)), false}, {core(seq(skip, par(skip, w))), false}, {core(skip, w), false}, {core(skip, node(api.TChoose, w, skip)), false},
		{core(big(2000)), true}, {core(big(2001)), false}, {core(skip, big(2000), big(2000)), true}, {core(skip, skip, big(2001)), false},
		{core(api.Term{Kind: api.TSet, A: 1, E: num(0)}), true}, {core(api.Term{Kind: api.TSet, A: 2, E: num(0)}), false}, {core(api.Term{Kind: api.TSet, E: api.Expr{Kind: api.EVar, N: 2}}), false}, {core(skip, api.Term{Kind: api.TReverse, A: 2}), false}, {core(api.Term{Kind: api.TReverse, A: 1}), true}, {core(api.Term{Kind: api.TCall, A: 1}), false}, {core(api.Term{Kind: api.TCall, A: 1}, skip), true}, {core(api.Term{Kind: 15}), false}, {core(skip, node(api.TSeq, skip)), false}, {core(do("do")), false}, {core(do("a")), true},
	} {
		if run.Check(x.c) != x.want {
			t.Errorf("P801: %d is not %v", i, x.want)
		}
	}
}

func TestP801Begin(t *testing.T) {
	c := core(skip, seq(skip, par(do("a"), node(api.TBlock, skip))))
	c.Main = 1
	want := api.Config{T: par(do("a"), skip), Vars: []int{5, math.MinInt}, Stacks: [][]api.Term{nil, nil}}
	f := run.Begin(c)
	if !same(f, want) || len(f.Stacks) != 2 {
		t.Errorf("P801: %v; want %v", f, want)
	}
	f.Vars[0] = 9
	f.T.L[0].Name = "z"
	if !same(run.Begin(c), want) {
		t.Error("P2: Begin shares memory with its program")
	}
	if f := run.Begin(api.Core{Procs: []api.Term{node(api.TBlock, skip)}}); !same(f, api.Config{}) {
		t.Errorf("P801: %v", f)
	}
}

// at makes where core(t, ..) is, with stacks.
func at(t api.Term, s ...[]api.Term) api.Config {
	for len(s) < 2 {
		s = append(s, nil)
	}
	return api.Config{T: t, Vars: []int{5, math.MinInt}, Stacks: s, Steps: 7, Key: 3}
}

func TestP802EachKind(t *testing.T) {
	c := core(skip, seq(do("p"), skip), skip)
	c.Main = 0
	a, b, x := do("a"), do("b"), do("x")
	set := func(v int, e api.Expr) api.Term { return api.Term{Kind: api.TSet, A: v, E: e} }
	branch := func(e api.Expr) api.Term { return api.Term{Kind: api.TIf, E: e, L: []api.Term{a, b}} }
	with := func(kind, a, b int, l ...api.Term) api.Term { return api.Term{Kind: kind, A: a, B: b, L: l} }
	then := func(f api.Config, change func(*api.Config)) api.Config {
		f.Steps++
		f.Vars = append([]int(nil), f.Vars...)
		change(&f)
		return f
	}
	none := func(*api.Config) {}
	key := func(f *api.Config) { f.Key++ }
	for i, z := range []struct {
		f     api.Config
		pick  int
		want  api.Config
		asked string
	}{
		{at(a), 0, then(at(wait("a", 3, -1)), key), "a"},
		{at(api.Term{Kind: api.TDo, Name: "q", A: 1}), 0, then(at(wait("q", 3, 1)), key), "q"},
		{at(seq(a, b)), 0, then(at(seq(wait("a", 3, -1), b)), key), "a"},
		{at(par(par(skip, a), b)), 1, then(at(par(par(skip, a), wait("b", 3, -1))), key), "b"},
		{at(par(par(a, skip), b)), 0, then(at(par(par(wait("a", 3, -1), skip), b)), key), "a"},
		{at(par(wait("a", 2, 0), a)), 0, then(at(par(wait("a", 2, 0), wait("a", 3, -1))), key), "a"},
		{at(set(0, num(8))), 0, then(at(skip), func(f *api.Config) { f.Vars[0] = 8 }), ""},
		{at(seq(set(1, api.Expr{Kind: api.EVar}), a)), 0, then(at(a), func(f *api.Config) { f.Vars[1] = 5 }), ""},
		{at(with(api.TPush, 1, 0, par(skip, skip))), 0, then(at(skip, nil, []api.Term{par(skip, skip)}), none), ""},
		{at(with(api.TPush, 0, 0, x), []api.Term{a, b}, []api.Term{a}), 0, then(at(skip, []api.Term{a, b, x}, []api.Term{a}), none), ""},
		{at(with(api.TReverse, 0, 0), []api.Term{a, b, x}, []api.Term{a}), 0, then(at(seq(x, seq(b, a)), nil, []api.Term{a}), none), ""},
		{at(seq(with(api.TReverse, 1, 0), a), nil, []api.Term{b}), 0, then(at(seq(b, a)), none), ""},
		{at(seq(with(api.TReverse, 0, 0), a), nil, []api.Term{b}), 0, then(at(a, nil, []api.Term{b}), none), ""},
		{at(with(api.TReverse, 0, 0), []api.Term{node(api.TBlock, skip)}), 0, then(at(skip), none), ""},
		{at(with(api.TAccept, 1, 0), []api.Term{a}, []api.Term{b, x}), 0, then(at(skip, []api.Term{a}), none), ""},
		{at(with(api.TMerge, 1, 0), []api.Term{a}, []api.Term{b, x}), 0, then(at(skip, []api.Term{a, b, x}), none), ""},
		{at(with(api.TMerge, 0, 1), []api.Term{a}, []api.Term{b, x}), 0, then(at(skip, nil, []api.Term{b, x, a}), none), ""},
		{at(with(api.TMerge, 0, 0), []api.Term{a}, []api.Term{b, x}), 0, then(at(skip, []api.Term{a}, []api.Term{b, x}), none), ""},
		{at(branch(num(1))), 0, then(at(a), none), ""}, {at(branch(num(0))), 0, then(at(b), none), ""}, {at(branch(api.Expr{Kind: api.EVar, N: 1})), 0, then(at(a), none), ""},
		{at(node(api.TChoose, a, b)), 0, then(at(a), none), ""}, {at(node(api.TChoose, a, b)), 1, then(at(b), none), ""}, {at(par(a, node(api.TChoose, x, skip))), 2, then(at(par(a, skip)), none), ""},
		{at(with(api.TCall, 1, 0)), 0, then(at(seq(do("p"), skip)), none), ""}, {at(seq(with(api.TCall, 2, 0), x)), 0, then(at(x), none), ""},
		{at(exit), 0, then(at(skip), none), ""}, {at(seq(exit, a)), 0, then(at(skip), none), ""}, {at(par(par(a, b), exit)), 2, then(at(skip), none), ""},
		{at(seq(node(api.TBlock, seq(exit, a)), b)), 0, then(at(b), none), ""}, {at(par(node(api.TBlock, par(a, exit)), b)), 1, then(at(par(skip, b)), none), ""}, {at(node(api.TBlock, seq(node(api.TBlock, seq(exit, x)), a))), 0, then(at(node(api.TBlock, a)), none), ""}, {at(node(api.TBlock, par(node(api.TBlock, a), exit))), 1, then(at(skip), none), ""},
		{at(par(node(api.TBlock, exit), wait("a", 1, 0))), 0, then(at(par(skip, wait("a", 1, 0))), none), ""},
		{at(node(api.TBlock, set(0, num(1)))), 0, then(at(skip), func(f *api.Config) { f.Vars[0] = 1 }), ""},
	} {
		was := fmt.Sprintf("%+v", z.f)
		g, asked, is, e := run.Do(c, z.f, z.pick)
		event := api.Event{}
		if z.asked != "" {
			event = api.Event{Name: z.asked, Key: 3}
		}
		if e != api.OK || !same(g, z.want) || asked != event || is != (z.asked != "") {
			t.Errorf("P802: %d: %v, %v, %v, %v; want %v", i, g, asked, is, e, z.want)
		}
		if fmt.Sprintf("%+v", z.f) != was {
			t.Errorf("P2: %d: %s is changed", i, was)
		}
	}
}

func TestP802Errors(t *testing.T) {
	v1, v0 := api.Expr{Kind: api.EVar, N: 1}, api.Expr{Kind: api.EVar}
	set := func(e api.Expr) api.Term { return api.Term{Kind: api.TSet, E: e} }
	branch := func(e api.Expr) api.Term { return api.Term{Kind: api.TIf, E: e, L: []api.Term{skip, skip}} }
	neg := api.Expr{Kind: api.ENeg, L: []api.Expr{v1}}
	zero := api.Expr{Kind: api.EMod, L: []api.Expr{v0, num(0)}}
	late := func(f api.Config, steps int) api.Config {
		f.Steps = steps
		return f
	}
	push := api.Term{Kind: api.TPush, L: []api.Term{skip}}
	call := api.Term{Kind: api.TCall, A: 1}
	c := core(skip, big(1500))
	for i, x := range []struct {
		f    api.Config
		pick int
		e    api.Errno
	}{
		{at(skip), 0, api.BadPick}, {at(skip), -1, api.BadPick}, {at(wait("a", 0, 0)), 0, api.BadPick}, {at(do("a")), 1, api.BadPick}, {at(do("a")), -1, api.BadPick}, {at(do("a")), math.MaxInt, api.BadPick}, {at(do("a")), math.MinInt, api.BadPick},
		{at(par(exit, wait("a", 0, 0))), 0, api.BadPick}, {at(node(api.TChoose, skip, skip)), 2, api.BadPick}, {at(node(api.TChoose, skip, skip)), 1, api.OK},
		{late(at(do("a")), 4999), 0, api.OK}, {late(at(do("a")), 5000), 0, api.Fuel}, {late(at(do("a")), 5000), 1, api.BadPick}, {late(at(skip), 5000), 0, api.BadPick}, {late(at(set(neg)), 5000), 0, api.Fuel}, {late(at(set(neg)), 4999), 0, api.Overflow},
		{at(set(neg)), 0, api.Overflow}, {at(set(zero)), 0, api.Zero}, {at(branch(neg)), 0, api.Overflow}, {at(branch(zero)), 0, api.Zero}, {at(set(v1)), 0, api.OK},
		{at(push, []api.Term{big(1998)}), 0, api.OK}, {at(push, []api.Term{big(1999)}), 0, api.Full}, {at(push, nil, []api.Term{big(1999)}), 0, api.Full}, {at(push, []api.Term{big(1000)}, []api.Term{big(999)}), 0, api.Full}, {at(push, []api.Term{big(1000)}, []api.Term{big(998)}), 0, api.OK},
		{late(at(push, []api.Term{big(1999)}), 5000), 0, api.Fuel},
		{at(seq(call, big(498))), 0, api.OK}, // in its place is skip, once normed
		{at(par(call, par(do("a"), big(500)))), 0, api.OK},
	} {
		g, asked, is, e := run.Do(c, x.f, x.pick)
		if e != x.e || e != api.OK && (!same(g, api.Config{}) || asked != api.Event{} || is) {
			t.Errorf("P802: %d: %v, %v, %v, %v; want %v", i, g, asked, is, e, x.e)
		}
	}
}

// What is counted is what is left when it is normed, and all stacks.
func TestP802FullIsCountedNormed(t *testing.T) {
	row := do("z")
	for range 749 {
		row = seq(do("z"), row)
	}
	call := api.Term{Kind: api.TCall, A: 1}
	if term.Size(row) != 1499 {
		t.Fatal("the row's size")
	}
	lasts := func(n int) []api.Term {
		l := make([]api.Term, n)
		for i := range l {
			l[i] = do("s")
		}
		return l
	}
	c := core(skip, row)
	for n, want := range map[int]api.Errno{500: api.OK, 501: api.OK, 502: api.Full} {
		if _, _, _, e := run.Do(c, at(call, lasts(n)), 0); e != want {
			t.Errorf("P802: %d on the stack: %v; want %v", n, e, want)
		}
		if _, _, _, e := run.Do(c, at(seq(call, do("b")), lasts(n-2)), 0); e != want {
			t.Errorf("P802: %d on the stack, in a row: %v; want %v", n, e, want)
		}
	}
	// Of n on a stack n - 1 rows more come by reverse.
	reverse := api.Term{Kind: api.TReverse}
	for n, want := range map[int]api.Errno{1000: api.OK, 1001: api.Full} {
		if _, _, _, e := run.Do(c, at(reverse, lasts(n)), 0); e != want {
			t.Errorf("P802: reverse of %d: %v; want %v", n, e, want)
		}
	}
	// By exit it grows less.
	if _, _, _, e := run.Do(c, at(par(exit, row), lasts(499)), 0); e != api.OK {
		t.Errorf("P802: exit: %v", e)
	}
}

func TestP803Tell(t *testing.T) {
	c := core(skip)
	a := do("a")
	for i, x := range []struct {
		f     api.Config
		key   int
		want  api.Term
		first int // of the first variable
		name  string
		is    bool
	}{
		{at(wait("a", 2, 0)), 2, skip, 77, "a", true},
		{at(wait("b", 2, -1)), 2, skip, 5, "b", true},
		{at(wait("a", 0, 0)), 0, skip, 77, "a", true},
		{at(wait("a", 2, 0)), 1, skip, 0, "", false}, {at(wait("a", 2, 0)), -1, skip, 0, "", false}, {at(skip), 0, skip, 0, "", false}, {at(a), 0, skip, 0, "", false}, {at(a), -1, skip, 0, "", false},
		{at(seq(wait("a", 1, 0), a)), 1, a, 77, "a", true},
		{at(seq(a, wait("a", 1, 0))), 1, skip, 0, "", false},
		{at(par(wait("a", 1, -1), wait("b", 2, 0))), 2, par(wait("a", 1, -1), skip), 77, "b", true},
		{at(par(wait("a", 1, -1), wait("b", 2, 0))), 1, par(skip, wait("b", 2, 0)), 5, "a", true},
		{at(par(wait("a", 1, -1), skip)), 1, skip, 5, "a", true},
		{at(node(api.TBlock, seq(par(skip, wait("d", 2, 0)), a))), 2, node(api.TBlock, a), 77, "d", true},
		{at(node(api.TBlock, par(skip, wait("d", 2, 0)))), 2, skip, 77, "d", true},
	} {
		was := fmt.Sprintf("%+v", x.f)
		g, told, is := run.Tell(c, x.f, x.key, 77)
		want, event := api.Config{}, api.Event{}
		if x.is {
			want, event = at(x.want), api.Event{Name: x.name, Key: x.key, Value: 77}
			want.Vars[0] = x.first
		}
		if is != x.is || told != event || !same(g, want) {
			t.Errorf("P803: %d: %v, %v, %v; want %v", i, g, told, is, want)
		}
		if fmt.Sprintf("%+v", x.f) != was {
			t.Errorf("P2: %d: %s is changed", i, was)
		}
	}
	g, told, is := run.Tell(c, at(wait("a", 1, 1)), 1, math.MinInt)
	if !is || told.Value != math.MinInt || g.Vars[1] != math.MinInt || g.Vars[0] != 5 || g.Steps != 7 || g.Key != 3 {
		t.Errorf("P803: %v, %v, %v", g, told, is)
	}
	late := at(wait("a", 1, 0))
	late.Steps = 5000
	if g, _, is := run.Tell(c, late, 1, 4); !is || g.Steps != 5000 {
		t.Errorf("P803: Fuel is no matter of Tell: %v, %v", g, is)
	}
}

// finish does the first step that may be done, and tells what is asked, till no step may be done; it tells the actions.
func finish(t *testing.T, c api.Core) string {
	t.Helper()
	f := run.Begin(c)
	var l []string
	for range 10000 {
		if w := term.Waits(f.T); len(w) > 0 {
			g, told, is := run.Tell(c, f, w[0], 1)
			if !is {
				t.Fatalf("P803: %v waits for %d", f, w[0])
			}
			f, l = g, append(l, told.Name)
			continue
		}
		g, _, _, e := run.Do(c, f, 0)
		if e == api.BadPick {
			break
		}
		if e != api.OK {
			l = append(l, "!"+e.Error())
			break
		}
		f = g
	}
	return strings.Join(l, " ")
}

func TestP804Stacks(t *testing.T) {
	for s, want := range map[string]string{
		"push s { do a }; push s { do b }; push s { do c }; reverse s":                                "c b a",
		"push s { do a }; push s { do b }; accept s; push s { do c }; reverse s":                      "c",
		"push s { do a }; push r { do b }; reverse s; reverse r":                                      "a b",
		"push s { do a }; push r { do b }; accept r; reverse s; reverse r":                            "a",
		"push s { do a }; push r { do b }; merge s r; push s { do c }; reverse r; reverse s":          "a b c",
		"push s { do a }; push r { do b }; merge r s; reverse r; reverse s":                           "b a",
		"push s { do a; do b }; push s { par { do c } { skip } }; reverse s; reverse s":               "c a b",
		"push s { push s { do a }; do b }; reverse s; do c; reverse s":                                "b c a",
		"push s { do a }; block { push s { do b }; exit; do c }; reverse s":                           "b a",
		"push s { reverse r }; push r { do a }; push r { do b }; reverse s; do c":                     "b a c",
		"do a -> x; if x { push s { do b } } else { skip }; x := 0; if x { do c } else { reverse s }": "a b",
		"push s { x := 1 / x }; reverse s; do a":                                                      "!zero",
		"push s { call q }; reverse s":                                                                "q1 q2",
	} {
		c := compile(t, "var x 0 stack s stack r proc q { do q1; do q2 } proc main { "+s+" }")
		if got := finish(t, c); got != want {
			t.Errorf("P804: %s: %s; want %s", s, got, want)
		}
	}
}

func TestP802FuelAndFull(t *testing.T) {
	if got := finish(t, compile(t, "proc main { do a; call main }")); strings.Count(got, "a") != 2500 || !strings.HasSuffix(got, "a !fuel") {
		t.Errorf("P802: %d actions", strings.Count(got, "a"))
	}
	if got := finish(t, compile(t, "proc main { do a; call main; do b }")); !strings.HasSuffix(got, "!full") || strings.Contains(got, "b") {
		t.Errorf("P802: %s", got)
	}
}

// randomBody makes a process that may call a, b.
func randomBody(r *rand.Rand, deep int) string {
	in := func() string { return "{ " + randomBody(r, deep-1) + " }" }
	leaves := []string{"skip", "do x", "do y -> v", "do z -> w", "exit", "v := v + 1", "w := w * v - 3", "v := w / (v % 3)", "reverse s", "reverse t", "accept s", "merge s t", "merge t s", "do x; call a", "call b", "push s { do y }", "push t { do x -> w; v := 0 }"}
	if deep == 0 {
		return leaves[r.Intn(len(leaves))]
	}
	switch r.Intn(8) {
	case 0:
		return "push " + []string{"s", "t"}[r.Intn(2)] + " " + in()
	case 1:
		return "block " + in()
	case 2:
		return "if v < 3 && w != 1 " + in() + " else " + in()
	case 3:
		return "choose " + in() + in()
	case 4:
		return "par " + in() + in()
	}
	return in() + "; " + in()
}

func randomCore(r *rand.Rand) api.Core {
	for {
		c, _, e := check.Compile("var v 1 var w 4 stack s stack t proc a { " + randomBody(r, 2) + " } proc b { " + randomBody(r, 1) + " } proc main { " + randomBody(r, 1+r.Intn(4)) + " }")
		if e == api.OK {
			return c
		}
	}
}

// replace puts u where a path leads.
func replace(t api.Term, path []int, u api.Term) api.Term {
	if len(path) == 0 {
		return u
	}
	l := append([]api.Term(nil), t.L...)
	l[path[0]] = replace(l[path[0]], path[1:], u)
	t.L = l
	return t
}

func find(t api.Term, path []int) api.Term {
	for _, i := range path {
		t = t.L[i]
	}
	return t
}

// left is what Do puts in place by P802, and where; of what eval says nothing is held against it.
func left(c api.Core, f api.Config, s api.Step) (path []int, u api.Term, l [][]api.Term) {
	t := find(f.T, s.Path)
	switch s.Kind {
	case api.TDo:
		return s.Path, wait(t.Name, f.Key, t.A), f.Stacks
	case api.TPush:
		return s.Path, skip, stacks.Push(f.Stacks, t.A, t.L[0])
	case api.TReverse:
		u, l := stacks.Reverse(f.Stacks, t.A)
		return s.Path, u, l
	case api.TAccept:
		return s.Path, skip, stacks.Accept(f.Stacks, t.A)
	case api.TMerge:
		return s.Path, skip, stacks.Merge(f.Stacks, t.A, t.B)
	case api.TChoose:
		return s.Path, t.L[s.Alt], f.Stacks
	case api.TCall:
		return s.Path, c.Procs[t.A], f.Stacks
	case api.TExit:
		for n := len(s.Path); n >= 0; n-- {
			if n == 0 || find(f.T, s.Path[:n]).Kind == api.TBlock {
				return s.Path[:n], skip, f.Stacks
			}
		}
	}
	return s.Path, skip, f.Stacks
}

func TestP802Random(t *testing.T) {
	r := rand.New(rand.NewSource(24))
	did := map[int]int{}
	for range 1500 {
		c := randomCore(r)
		if !run.Check(c) {
			t.Fatalf("P801: %v", c)
		}
		f := run.Begin(c)
		for range 60 {
			l := steps.Enabled(f.T)
			if w := term.Waits(f.T); len(w) > 0 && (len(l) == 0 || r.Intn(2) == 0) {
				key := w[r.Intn(len(w))]
				g, told, is := run.Tell(c, f, key, r.Intn(5))
				if !is || told.Key != key || len(term.Waits(g.T)) != len(w)-1 || g.Steps != f.Steps || g.Key != f.Key {
					t.Fatalf("P803: %v: %v, %v, %v", f, g, told, is)
				}
				f = g
				continue
			}
			if len(l) == 0 {
				break
			}
			pick := r.Intn(len(l))
			did[l[pick].Kind]++
			was := fmt.Sprintf("%+v", f)
			g, asked, is, e := run.Do(c, f, pick)
			if fmt.Sprintf("%+v", f) != was {
				t.Fatalf("P2: %s is changed", was)
			}
			if e != api.OK {
				if kind := l[pick].Kind; (e == api.Overflow || e == api.Zero) != (kind == api.TSet) && e != api.Full {
					t.Fatalf("P802: %v: %v", l[pick], e)
				}
				break
			}
			if g.Steps != f.Steps+1 || is != (l[pick].Kind == api.TDo) || is && (asked.Key != f.Key || asked.Name != find(f.T, l[pick].Path).Name || asked.Value != 0 || g.Key != f.Key+1) || !is && (g.Key != f.Key || asked != api.Event{}) {
				t.Fatalf("P802: %v: %v, %v, %v", f, g, asked, is)
			}
			if kind := l[pick].Kind; kind != api.TIf {
				path, u, s := left(c, f, l[pick])
				if !term.Same(g.T, term.Norm(replace(f.T, path, u))) || !same(g.Stacks, s) || kind != api.TSet && !same(g.Vars, f.Vars) {
					t.Fatalf("P802: %v of %v: %v", l[pick], f, g)
				}
			} else if u := find(f.T, l[pick].Path); !term.Same(g.T, term.Norm(replace(f.T, l[pick].Path, u.L[0]))) && !term.Same(g.T, term.Norm(replace(f.T, l[pick].Path, u.L[1]))) {
				t.Fatalf("P802: %v of %v: %v", l[pick], f, g)
			}
			if !term.Right(g.T, 2, 2, len(c.Procs)) || !term.Same(g.T, term.Norm(g.T)) || term.Size(g.T)+stacks.Size(g.Stacks) > api.MaxSize {
				t.Fatalf("P802: %v", g)
			}
			f = g
		}
	}
	for kind := api.TDo; kind <= api.TCall; kind++ {
		if kind != api.TBlock && kind != api.TPar && kind != api.TSeq && did[kind] < 20 {
			t.Errorf("kind %d is done %d times only", kind, did[kind])
		}
	}
}

func spoilTerm(t *api.Term) {
	for i := range t.L {
		spoilTerm(&t.L[i])
	}
	for i := range t.E.L {
		t.E.L[i] = api.Expr{Kind: 77}
	}
	*t = api.Term{Kind: 77}
}

func spoilConfig(f api.Config) {
	spoilTerm(&f.T)
	for i := range f.Vars {
		f.Vars[i] = 77
	}
	for i := range f.Stacks {
		for j := range f.Stacks[i] {
			spoilTerm(&f.Stacks[i][j])
		}
		f.Stacks[i] = nil
	}
}

func TestP2AnswersAreNew(t *testing.T) {
	r := rand.New(rand.NewSource(25))
	for range 400 {
		c := randomCore(r)
		program, f := fmt.Sprintf("%+v", c), run.Begin(c)
		for range 20 {
			was := fmt.Sprintf("%+v", f)
			var g, g2 api.Config
			if w := term.Waits(f.T); len(w) > 0 {
				g, _, _ = run.Tell(c, f, w[0], 2)
				g2, _, _ = run.Tell(c, f, w[0], 2)
			} else {
				pick := r.Intn(max(1, len(steps.Enabled(f.T))))
				g, _, _, _ = run.Do(c, f, pick)
				g2, _, _, _ = run.Do(c, f, pick)
			}
			kept := fmt.Sprintf("%+v", g2)
			spoilConfig(g)
			if fmt.Sprintf("%+v", f) != was || fmt.Sprintf("%+v", c) != program || fmt.Sprintf("%+v", g2) != kept {
				t.Fatal("P2: an answer shares memory")
			}
			if len(g2.Vars) == 0 {
				break
			}
			f = g2
		}
	}
}

func wild(r *rand.Rand, deep int) api.Term {
	t := api.Term{Kind: r.Intn(18) - 1, A: r.Intn(5) - 2, B: r.Intn(5) - 2, Name: []string{"", "a", "Q"}[r.Intn(3)]}
	if r.Intn(2) == 0 {
		t.E = api.Expr{Kind: r.Intn(19), N: r.Intn(3), L: make([]api.Expr, r.Intn(3))}
	}
	if deep > 0 {
		for range r.Intn(4) {
			t.L = append(t.L, wild(r, deep-1))
		}
	}
	return t
}

func TestP1Anything(t *testing.T) {
	r := rand.New(rand.NewSource(26))
	for range 20000 {
		c := api.Core{Vars: make([]int, r.Intn(3)), Stacks: []int{0, 1, 2, -1, 1 << 60}[r.Intn(5)], Main: r.Intn(4) - 1}
		for range r.Intn(3) {
			c.Procs = append(c.Procs, wild(r, 2))
		}
		f := api.Config{T: wild(r, 3), Vars: make([]int, r.Intn(3)), Stacks: make([][]api.Term, r.Intn(3)), Steps: r.Intn(3) - 1, Key: r.Intn(3) - 1}
		if r.Intn(2) == 0 { // one that only a little is wrong with
			c.Procs, c.Main, c.Stacks = []api.Term{skip, do("a")}, 0, 1
			f = run.Begin(c)
			f.T = []api.Term{wild(r, 0), seq(wild(r, 1), skip), wait("a", -1, 9), {Kind: api.TSet, A: 9, E: num(1)}, {Kind: api.TCall, A: 9}, {Kind: api.TPush, A: 5, L: []api.Term{skip}}}[r.Intn(6)]
		}
		was := fmt.Sprintf("%+v %+v", c, f)
		run.Check(c)
		run.Begin(c)
		for pick := range 3 {
			run.Do(c, f, pick-1)
			run.Tell(c, f, pick-2, 4)
		}
		if fmt.Sprintf("%+v %+v", c, f) != was {
			t.Fatalf("P2: %s is changed", was)
		}
	}
}
