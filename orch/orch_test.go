package orch_test

import (
	"fmt"
	"math"
	"math/rand"
	"strings"
	"testing"

	"penance/api"
	"penance/check"
	"penance/code"
	"penance/orch"
	"penance/run"
	"penance/steps"
	"penance/term"
	"penance/trace"
)

// same holds answers against each other: a nil list and an empty one are the same.
func same(a, b any) bool { return fmt.Sprintf("%+v", a) == fmt.Sprintf("%+v", b) }

// told holds an answer against what it should be.
func told(t *testing.T, what string, got orch.Told, e api.Errno, at, n int) {
	t.Helper()
	if got != (orch.Told{E: e, At: at, N: n}) {
		t.Errorf("%s: %+v; want %v, %d, %d", what, got, e, at, n)
	}
}

func submitted(t *testing.T, limit int, values []int, texts ...string) *orch.Orch {
	t.Helper()
	o := orch.New(limit, values)
	for i, s := range texts {
		told(t, s, o.Submit(s), api.OK, 0, i)
	}
	return o
}

const roomy = 1 << 24

// size is how many bytes an instance's record takes in the log.
func size(o *orch.Orch, id int, text string) int {
	c, _, _ := check.Compile(text)
	f, _, _, _ := o.Config(id)
	n := 4 + 8 + 8 + 8 + len(code.Core(c)) + 8 + 8 + len(code.Config(f))
	for _, e := range o.Events(id) {
		n += 8 + len(e.Name) + 16
	}
	return n
}

// state tells all that can be seen.
func state(o *orch.Orch) string {
	return processes(o) + fmt.Sprintf(" %+v %d", o.Applied(), o.Flight())
}

// processes tells all that can be seen of the instances.
func processes(o *orch.Orch) string {
	var b strings.Builder
	for id := range o.Count() {
		f, status, fault, is := o.Config(id)
		fmt.Fprintf(&b, "%d: %+v %d %v %v %+v\n", id, f, status, fault, is, o.Events(id))
	}
	return b.String()
}

func TestP1301New(t *testing.T) {
	for _, limit := range []int{0, 1, roomy} {
		o := orch.New(limit, []int{1})
		if o.Count() != 0 || o.Flight() != 0 || len(o.Applied()) != 0 || len(o.Events(0)) != 0 {
			t.Errorf("P1301: %s", state(o))
		}
		if f, status, fault, is := o.Config(0); is || !same(f, api.Config{}) || status != 0 || fault != 0 {
			t.Errorf("P1302: %v, %v, %v, %v", f, status, fault, is)
		}
		told(t, "P1301: Step", o.Step(0, 0), api.NotThere, 0, 0)
		told(t, "P1301: Snapshot", o.Snapshot(), api.OK, 0, 0)
		told(t, "P1302: Deliver", o.Deliver(0), api.NotThere, 0, 0)
		told(t, "P1302: Drop", o.Drop(0), api.NotThere, 0, 0)
		told(t, "P1302: Twice", o.Twice(0), api.NotThere, 0, 0)
		o.Flush()
		o.Tick()
		o.Crash(10)
		if o.Count() != 0 || o.Flight() != 0 {
			t.Errorf("P1302: %s", state(o))
		}
	}
}

func TestP1301Submit(t *testing.T) {
	o := orch.New(roomy, nil)
	for _, x := range []struct {
		s  string
		at int
		e  api.Errno
	}{
		{"", 0, api.NoMain}, {"proc main { skip", 16, api.BadText}, {"proc main { ? }", 12, api.BadSign}, {"proc main { x := 1 }", 0, api.Unknown}, {"proc main { call main }", 0, api.Unguarded}, {"var x 1 var x 2", 0, api.Twice}, {"proc main { skip } " + strings.Repeat("x", 21), 19, api.Limit},
	} {
		told(t, "P1301: "+x.s, o.Submit(x.s), x.e, x.at, 0)
	}
	if o.Count() != 0 {
		t.Errorf("P5: %s", state(o))
	}
	for id := range 4 {
		s := fmt.Sprintf("var x %d stack s proc main { skip; do a%d }", id, id)
		told(t, "P1301: "+s, o.Submit(s), api.OK, 0, id)
		c, _, _ := check.Compile(s)
		f, status, fault, is := o.Config(id)
		if !is || !same(f, run.Begin(c)) || status != api.Live || fault != api.OK || o.Count() != id+1 || len(o.Events(id)) != 0 {
			t.Errorf("P1301: %v, %v, %v, %v", f, status, fault, is)
		}
	}
	told(t, "P1301: a fifth", o.Submit("proc main { skip }"), api.Limit, 0, 0)
	told(t, "P1301: a fifth that is wrong", o.Submit("proc main { }"), api.BadText, 12, 0)
	if o.Count() != 4 {
		t.Errorf("P1301: %d", o.Count())
	}
}

func TestP1301SubmitFull(t *testing.T) {
	s := "var x 5 stack s proc main { push s { do a -> x }; x := x + 1 }"
	n := size(submitted(t, roomy, nil, s), 0, s)
	o := orch.New(n-1, nil)
	told(t, "P1301: a byte too much", o.Submit(s), api.Full, 0, 0)
	if o.Count() != 0 {
		t.Errorf("P5: %s", state(o))
	}
	told(t, "P1301: it is smaller", o.Submit("proc main { skip }"), api.OK, 0, 0)
	o = orch.New(n, nil)
	told(t, "P1301: as much as there is", o.Submit(s), api.OK, 0, 0)
	told(t, "P1301: again", o.Submit(s), api.Full, 0, 0)
	if o.Count() != 1 {
		t.Errorf("P5: %s", state(o))
	}
}

// A process by hand, to its end.
func TestP1301StepByStep(t *testing.T) {
	o := submitted(t, roomy, []int{7, 8}, "var x 0 stack s proc main { do book -> x; push s { do cancel }; if x > 5 { reverse s } else { accept s } }")
	check := func(what string, status, flight int, events, applied string) {
		t.Helper()
		_, got, fault, _ := o.Config(0)
		if got != status || fault != api.OK || o.Flight() != flight || fmt.Sprint(o.Events(0)) != events || fmt.Sprint(o.Applied()) != applied {
			t.Errorf("%s: %d, %s", what, got, state(o))
		}
	}
	told(t, "do book", o.Step(0, 0), api.OK, 0, 1)
	check("it is held", api.Waiting, 0, "[]", "[]")
	told(t, "it waits", o.Step(0, 0), api.BadPick, 0, 0)
	o.Tick()
	check("what is held isn't asked by Tick", api.Waiting, 0, "[]", "[]")
	o.Flush()
	check("it is asked", api.Waiting, 1, "[]", "[]")
	o.Flush()
	check("it is held no more", api.Waiting, 1, "[]", "[]")
	told(t, "no such message", o.Deliver(1), api.NotThere, 0, 0)
	told(t, "no such message", o.Deliver(-1), api.NotThere, 0, 0)
	told(t, "the request", o.Deliver(0), api.OK, 0, 0)
	check("it is applied", api.Waiting, 1, "[]", "[{book 0 7}]")
	told(t, "double it", o.Twice(0), api.OK, 0, 0)
	told(t, "the answer", o.Deliver(0), api.OK, 0, 1)
	check("it is told", api.Live, 1, "[{book 0 7}]", "[{book 0 7}]")
	told(t, "the answer again", o.Deliver(0), api.OK, 0, 0)
	check("it is told once", api.Live, 0, "[{book 0 7}]", "[{book 0 7}]")
	if f, _, _, _ := o.Config(0); f.Vars[0] != 7 || f.Steps != 1 || f.Key != 1 {
		t.Errorf("P1302: %v", f)
	}
	for _, n := range []int{0, 0, 0, 1} { // push, if, reverse, do cancel
		told(t, "a step", o.Step(0, 0), api.OK, 0, n)
	}
	told(t, "no such pick", o.Step(0, 1), api.BadPick, 0, 0)
	o.Flush()
	told(t, "a request is lost", o.Drop(0), api.OK, 0, 0)
	check("it is lost", api.Waiting, 0, "[{book 0 7}]", "[{book 0 7}]")
	o.Tick()
	check("it is asked again", api.Waiting, 1, "[{book 0 7}]", "[{book 0 7}]")
	told(t, "the request", o.Deliver(0), api.OK, 0, 0)
	told(t, "the answer", o.Deliver(0), api.OK, 0, 1)
	check("all is done", api.Done, 0, "[{book 0 7} {cancel 1 8}]", "[{book 0 7} {cancel 1 8}]")
	told(t, "it is done", o.Step(0, 0), api.BadPick, 0, 0)
	for _, id := range []int{-1, 1, 4, math.MinInt, math.MaxInt} {
		told(t, "no such instance", o.Step(id, 0), api.NotThere, 0, 0)
		if f, status, fault, is := o.Config(id); is || !same(f, api.Config{}) || status != 0 || fault != 0 || len(o.Events(id)) != 0 {
			t.Errorf("P1302: %d: %v, %v, %v, %v", id, f, status, fault, is)
		}
	}
}

// Keys on the wire tell the instance.
func TestP1301Keys(t *testing.T) {
	s := "proc main { do a; do b }"
	o := submitted(t, roomy, []int{1, 2, 3, 4}, s, s, s, s)
	for _, id := range []int{2, 0, 3, 1} {
		told(t, "do a", o.Step(id, 0), api.OK, 0, 1)
	}
	o.Flush()
	for range 4 {
		o.Deliver(0)
	}
	if got := fmt.Sprint(o.Applied()); got != "[{a 200000 1} {a 0 2} {a 300000 3} {a 100000 4}]" {
		t.Errorf("P1302: in order, by keys of the wire: %s", got)
	}
	told(t, "the second answer", o.Deliver(1), api.OK, 0, 1)
	if fmt.Sprint(o.Events(0), o.Events(1), o.Events(2), o.Events(3)) != "[{a 0 2}] [] [] []" {
		t.Errorf("P1302: %s", state(o))
	}
	told(t, "do b", o.Step(0, 0), api.OK, 0, 1)
	told(t, "the second answer", o.Deliver(1), api.OK, 0, 1)
	told(t, "do b", o.Step(3, 0), api.OK, 0, 1)
	o.Flush()
	o.Deliver(2)
	o.Deliver(2)
	if got := fmt.Sprint(o.Applied()[4:]); got != "[{b 1 0} {b 300001 0}]" {
		t.Errorf("P1302: %s", got)
	}
	o.Deliver(2)
	o.Deliver(2)
	if fmt.Sprint(o.Events(0), o.Events(1), o.Events(2), o.Events(3)) != "[{a 0 2} {b 1 0}] [] [] [{a 0 3} {b 1 0}]" {
		t.Errorf("P1302: %s", state(o))
	}
}

func TestP1301StepFull(t *testing.T) {
	s := "var x 5 proc main { do a -> x; x := 1 / x }"
	begin := submitted(t, roomy, nil, s)
	first := size(begin, 0, s)
	begin.Step(0, 0)
	second := size(begin, 0, s)
	o := submitted(t, first+second-1, nil, s)
	was := state(o)
	told(t, "P1301: a byte too much", o.Step(0, 0), api.Full, 0, 0)
	o.Flush()
	if state(o) != was {
		t.Errorf("P5: %s; was %s", state(o), was)
	}
	o.Crash(0)
	if state(o) != was {
		t.Errorf("P5: %s; was %s", state(o), was)
	}
	o = submitted(t, first+second, nil, s)
	told(t, "P1301: as much as there is", o.Step(0, 0), api.OK, 0, 1)
	o.Flush()
	if o.Flight() != 1 {
		t.Errorf("P1301: %s", state(o))
	}
	// There is no room for what is told: it is asked again, and told the same.
	for range 3 {
		told(t, "the request", o.Deliver(0), api.OK, 0, 0)
		was := processes(o)
		told(t, "P1302: there is no room", o.Deliver(0), api.Full, 0, 0)
		if processes(o) != was || o.Flight() != 1 || len(o.Applied()) != 1 {
			t.Errorf("P1302: %s; was %s", state(o), was)
		}
	}
	told(t, "the log is made short", o.Snapshot(), api.OK, 0, 0)
	told(t, "the request", o.Deliver(0), api.OK, 0, 0)
	told(t, "the answer", o.Deliver(0), api.OK, 0, 1)
	if got := fmt.Sprint(o.Events(0)); got != "[{a 0 0}]" {
		t.Errorf("P1302: %s", got)
	}
	// A fault is one only if the log takes it.
	was = state(o)
	for range 2 {
		told(t, "P1301: there is no room", o.Step(0, 0), api.Full, 0, 0)
		if state(o) != was {
			t.Errorf("P5: %s; was %s", state(o), was)
		}
	}
	o.Snapshot()
	told(t, "P1301: it has a fault", o.Step(0, 0), api.Zero, 0, 0)
	if _, _, fault, _ := o.Config(0); fault != api.Zero {
		t.Errorf("P1301: %v", fault)
	}
}

func TestP1301Faults(t *testing.T) {
	for s, e := range map[string]api.Errno{
		"var x 0 proc main { x := 1 / x }":                      api.Zero,
		"var x 0 proc main { if 1 % x { skip } else { skip } }": api.Zero,
		"var x 999999999999999999 proc main { x := x * x }":     api.Overflow,
	} {
		o := submitted(t, roomy, nil, s)
		was, status, _, _ := o.Config(0)
		got := o.Step(0, 0)
		told(t, s, got, e, 0, 0)
		f, now, fault, _ := o.Config(0)
		if !same(f, was) || now != status || fault != e {
			t.Errorf("P1301: %s: %v, %v, %v", s, f, now, fault)
		}
		told(t, "P1301: it has a fault", o.Step(0, 0), api.BadPick, 0, 0)
		told(t, "P1301: it has a fault", o.Step(0, 99), api.BadPick, 0, 0)
		o.Flush()
		o.Crash(0)
		if _, _, fault, _ := o.Config(0); fault != e {
			t.Errorf("P1302: %s: behind a crash: %v", s, fault)
		}
		told(t, "P1301: it has a fault", o.Step(0, 0), api.BadPick, 0, 0)
	}
}

func TestP1301Fuel(t *testing.T) {
	o := submitted(t, roomy, nil, "proc main { do a; call main }")
	var got orch.Told
	for range 2500 {
		o.Step(0, 0)
		o.Flush()
		o.Deliver(0)
		o.Deliver(0)
		got = o.Step(0, 0)
		o.Snapshot()
	}
	told(t, "the last step", got, api.OK, 0, 0)
	f, status, fault, _ := o.Config(0)
	if f.Steps != 5000 || f.Key != 2500 || status != api.Live || fault != api.OK || len(o.Events(0)) != 2500 {
		t.Errorf("P1301: %v, %v, %v", f, status, fault)
	}
	told(t, "one more", o.Step(0, 0), api.Fuel, 0, 0)
	if _, _, fault, _ := o.Config(0); fault != api.Fuel {
		t.Errorf("P1301: %v", fault)
	}
}

func TestP1301FullIsAFaultToo(t *testing.T) {
	long := strings.Repeat("do z;", 700) + "skip"
	o := submitted(t, 1<<26, nil, "stack s proc q { "+long+" } proc main { push s { call q }; push s { call q }; par { call q } { call q } }")
	o.Step(0, 0)
	o.Step(0, 0)
	told(t, "the first call", o.Step(0, 0), api.OK, 0, 0)
	told(t, "the second call", o.Step(0, 1), api.Full, 0, 0)
	if _, _, fault, _ := o.Config(0); fault != api.Full {
		t.Errorf("P1301: %v", fault)
	}
	told(t, "P1301: it has a fault", o.Step(0, 0), api.BadPick, 0, 0)
}

// Behind a fault nothing of that instance is asked, or told; of others it is.
func TestP1301FaultForgets(t *testing.T) {
	s := "var x 0 proc main { par { do a } { par { do b } { x := 1 / 0 } } }"
	o := submitted(t, roomy, []int{5, 6}, s, s, s)
	for id := range 3 {
		told(t, "do a", o.Step(id, 0), api.OK, 0, 1)
	}
	o.Flush()
	for id := range 3 {
		told(t, "do b", o.Step(id, 0), api.OK, 0, 1)
	}
	told(t, "the fault", o.Step(1, 0), api.Zero, 0, 0)
	if o.Flight() != 3 {
		t.Errorf("P1301: what flies flies on: %s", state(o))
	}
	o.Flush()
	if o.Flight() != 5 {
		t.Errorf("P1301: what is held of it is given up: %s", state(o))
	}
	o.Tick()
	if o.Flight() != 9 {
		t.Errorf("P1301: what it has open is forgotten: %s", state(o))
	}
	for range 9 {
		told(t, "a request", o.Deliver(0), api.OK, 0, 0)
	}
	if len(o.Applied()) != 5 {
		t.Errorf("P1302: %s", state(o))
	}
	n := 0
	for o.Flight() > 0 {
		n += o.Deliver(0).N
	}
	if n != 4 || len(o.Events(0)) != 2 || len(o.Events(1)) != 0 || len(o.Events(2)) != 2 {
		t.Errorf("P1302: %d: %s", n, state(o))
	}
	o.Crash(math.MaxInt)
	if o.Flight() != 0 || len(o.Events(1)) != 0 {
		t.Errorf("P1302: behind a crash nothing is asked of one that has a fault: %s", state(o))
	}
	if _, _, fault, _ := o.Config(1); fault != api.Zero {
		t.Errorf("P1302: %v", fault)
	}
}

func TestP1302Crash(t *testing.T) {
	s := "proc main { do a; do b }"
	o := submitted(t, roomy, []int{5, 6}, s)
	o.Crash(math.MaxInt)
	if o.Count() != 1 {
		t.Errorf("P1302: all is kept: %s", state(o))
	}
	was := state(o)
	told(t, "do a", o.Step(0, 0), api.OK, 0, 1)
	o.Crash(0)
	if state(o) != was {
		t.Errorf("P1302: %s; was %s", state(o), was)
	}
	o.Flush()
	if o.Flight() != 0 {
		t.Errorf("P1302: nothing is held: %s", state(o))
	}
	told(t, "do a", o.Step(0, 0), api.OK, 0, 1)
	f, _, _, _ := o.Config(0)
	o.Crash(size(o, 0, s)) // the whole record is kept
	if g, _, _, _ := o.Config(0); !same(f, g) || o.Flight() != 1 {
		t.Errorf("P1302: it waits, and is asked: %s", state(o))
	}
	told(t, "the request", o.Deliver(0), api.OK, 0, 0)
	told(t, "the answer", o.Deliver(0), api.OK, 0, 1)
	o.Crash(size(o, 0, s) - 1) // it is not whole
	if g, _, _, _ := o.Config(0); !same(f, g) || o.Flight() != 1 || len(o.Events(0)) != 0 || len(o.Applied()) != 1 {
		t.Errorf("P1302: it waits again, and is asked: %s", state(o))
	}
	o.Crash(-5)
	if o.Flight() != 2 {
		t.Errorf("P1302: what flies flies on: %s", state(o))
	}
	o.Deliver(0)
	o.Deliver(0)
	told(t, "the answer", o.Deliver(0), api.OK, 0, 1)
	told(t, "the other answer", o.Deliver(0), api.OK, 0, 0)
	if fmt.Sprint(o.Events(0), o.Applied()) != "[{a 0 5}] [{a 0 5}]" {
		t.Errorf("P1302: %s", state(o))
	}
	o = submitted(t, roomy, nil, s, s)
	o.Crash(size(o, 0, s))
	if o.Count() != 1 {
		t.Errorf("P1302: the second one is lost: %s", state(o))
	}
	told(t, "its id is free", o.Submit("proc main { skip }"), api.OK, 0, 1)
}

// Behind a crash all that an instance waits for is asked, by id, from left to right.
func TestP1302CrashAsks(t *testing.T) {
	s := "proc main { par { par { do a } { block { do b; skip } } } { do c } }"
	o := submitted(t, roomy, []int{1, 2, 3, 4, 5, 6}, s, s)
	for _, x := range [][2]int{{1, 2}, {0, 1}, {0, 0}, {1, 0}, {1, 0}, {0, 0}} {
		told(t, "a step", o.Step(x[0], x[1]), api.OK, 0, 1)
	}
	o.Flush()
	for o.Flight() > 0 {
		o.Drop(0)
	}
	o.Crash(0)
	for range 6 {
		o.Deliver(0)
	}
	if got := fmt.Sprint(o.Applied()); got != "[{a 1 1} {b 0 2} {c 2 3} {a 100001 4} {b 100002 5} {c 100000 6}]" {
		t.Errorf("P1302: %s", got)
	}
	o.Tick()
	if o.Flight() != 12 {
		t.Errorf("P1302: they are open: %s", state(o))
	}
}

// One that has a fault is gone past, those behind it are not.
func TestP1302CrashAsksBehindAFault(t *testing.T) {
	o := submitted(t, roomy, nil, "var x 0 proc main { x := 1 / x }", "proc main { do a }", "proc main { do b }")
	o.Step(1, 0)
	o.Step(2, 0)
	told(t, "the fault", o.Step(0, 0), api.Zero, 0, 0)
	o.Crash(math.MaxInt)
	o.Deliver(0)
	o.Deliver(0)
	if got := fmt.Sprint(o.Applied()); got != "[{a 100000 0} {b 200000 0}]" || o.Flight() != 2 {
		t.Errorf("P1302: %s", state(o))
	}
}

func TestP1301Snapshot(t *testing.T) {
	s := "var x 0 proc main { do a -> x; x := x + 1; do b }"
	o := submitted(t, roomy, []int{5}, s, "proc main { do c }")
	o.Step(0, 0)
	o.Step(1, 0)
	told(t, "P1301: Snapshot", o.Snapshot(), api.OK, 0, 0)
	if o.Flight() != 2 {
		t.Errorf("P1301: then as Flush: %s", state(o))
	}
	was := processes(o)
	o.Crash(0)
	if processes(o) != was {
		t.Errorf("P1301: %s; was %s", processes(o), was)
	}
	o.Deliver(0)
	o.Deliver(3)
	o.Step(0, 0)
	o.Snapshot()
	was = processes(o)
	o.Crash(0)
	if processes(o) != was || len(o.Events(0)) != 1 {
		t.Errorf("P1301: %s; was %s", processes(o), was)
	}
	// It takes as much as all instances' records.
	long := "proc main { do a }"
	n := size(submitted(t, roomy, nil, long), 0, long)
	o = submitted(t, n+n+2, nil, long, long)
	told(t, "P1301: there is no room", o.Step(0, 0), api.Full, 0, 0)
	told(t, "P1301: Snapshot", o.Snapshot(), api.OK, 0, 0)
	told(t, "P1301: there is no room", o.Step(0, 0), api.Full, 0, 0)
}

// A record of each instance is always in the log, so that there is room for them alone.
func TestP1301SnapshotHasRoom(t *testing.T) {
	a, b := "proc main { do a; do a; do a }", "proc main { skip }"
	o := submitted(t, roomy, nil, a, b)
	all := size(o, 0, a) + size(o, 1, b)
	o = submitted(t, all, nil, a, b)
	was := state(o)
	for range 2 {
		told(t, "P1301: there is no room", o.Step(0, 0), api.Full, 0, 0)
		told(t, "P1301: Snapshot", o.Snapshot(), api.OK, 0, 0)
		if state(o) != was {
			t.Errorf("P5: %s; was %s", state(o), was)
		}
	}
}

func TestP1302DropAndTwice(t *testing.T) {
	o := submitted(t, roomy, nil, "proc main { do a }")
	o.Step(0, 0)
	o.Flush()
	for _, at := range []int{-1, 1, math.MinInt, math.MaxInt} {
		told(t, "P1302: Drop", o.Drop(at), api.NotThere, 0, 0)
		told(t, "P1302: Twice", o.Twice(at), api.NotThere, 0, 0)
		told(t, "P1302: Deliver", o.Deliver(at), api.NotThere, 0, 0)
	}
	told(t, "P1302: Twice", o.Twice(0), api.OK, 0, 0)
	if o.Flight() != 2 {
		t.Errorf("P1302: %s", state(o))
	}
	told(t, "P1302: Drop", o.Drop(0), api.OK, 0, 0)
	told(t, "P1302: Drop", o.Drop(0), api.OK, 0, 0)
	if o.Flight() != 0 {
		t.Errorf("P1302: %s", state(o))
	}
	for _, want := range []int{1, 1, 2, 2, 2, 2, 3} {
		o.Tick()
		if o.Flight() != want {
			t.Errorf("P1302: Tick: %d; want %d", o.Flight(), want)
		}
	}
}

func randomBody(r *rand.Rand, deep int) string {
	in := func() string { return "{ " + randomBody(r, deep-1) + " }" }
	leaves := []string{"skip", "do a", "do b -> x", "do c -> y", "exit", "x := x + 1", "y := 7 / x", "reverse s", "accept s", "merge s r", "reverse r", "push s { do d }", "push r { do e -> x }", "do a; call loop"}
	if deep == 0 {
		return leaves[r.Intn(len(leaves))]
	}
	switch r.Intn(7) {
	case 0:
		return "block " + in()
	case 1:
		return "if x < 2 " + in() + " else " + in()
	case 2:
		return "choose " + in() + in()
	case 3, 4:
		return "par " + in() + in()
	}
	return in() + "; " + in()
}

func randomText(r *rand.Rand) string {
	return "var x 0 var y 3 stack s stack r proc main { " + randomBody(r, 1+r.Intn(4)) + " } proc loop { do l; call loop }"
}

// once holds T2 of all instances.
func once(t *testing.T, o *orch.Orch) {
	t.Helper()
	met := map[int]bool{}
	for _, e := range o.Applied() {
		if met[e.Key] {
			t.Fatalf("T2: key %d is applied twice", e.Key)
		}
		met[e.Key] = true
		id, key := e.Key/100000, e.Key%100000
		f, _, fault, is := o.Config(id)
		if !is {
			t.Fatalf("T2: %v was asked by none", e)
		}
		found := fault != api.OK
		for _, l := range o.Events(id) {
			found = found || l == api.Event{Name: e.Name, Key: key, Value: e.Value}
		}
		for _, w := range term.Waits(f.T) {
			found = found || w == key
		}
		if !found {
			t.Fatalf("T2: %v is neither told nor waited for: %s", e, state(o))
		}
	}
	for id := range o.Count() {
		told := map[int]bool{}
		for _, e := range o.Events(id) {
			if told[e.Key] || !met[id*100000+e.Key] {
				t.Fatalf("T2: %d: %v is told twice, or was not applied", id, e)
			}
			told[e.Key] = true
		}
	}
}

// Whatever is picked, lost, doubled, crashed: the theorems hold.
func TestP1303Theorems(t *testing.T) {
	r := rand.New(rand.NewSource(33))
	sures, events, crashes, fulls := 0, 0, 0, 0
	for range 400 {
		limit := roomy
		if r.Intn(3) == 0 {
			limit = 4000 + r.Intn(20000)
		}
		values := []int{r.Intn(4), r.Intn(4), r.Intn(4), r.Intn(4), r.Intn(4), 9}
		o := orch.New(limit, values)
		texts := map[int]string{}
		history := []string{processes(o)} // since the last Flush
		for range 120 {
			var got orch.Told
			switch n := r.Intn(20); {
			case n == 0:
				s := randomText(r)
				if got = o.Submit(s); got.E == api.OK {
					texts[got.N] = s
				}
			case n < 9:
				id := r.Intn(max(1, o.Count()))
				f, _, _, _ := o.Config(id)
				got = o.Step(id, r.Intn(max(1, len(steps.Enabled(f.T)))))
			case n < 11:
				o.Flush()
				history = nil
			case n == 11:
				o.Tick()
			case n == 12 && r.Intn(3) == 0:
				if got = o.Snapshot(); got.E == api.OK {
					history = nil
				}
			case n == 13:
				o.Drop(r.Intn(o.Flight() + 1))
			case n == 14:
				o.Twice(r.Intn(o.Flight() + 1))
			case n == 15 && r.Intn(2) == 0:
				crashes++
				o.Crash(r.Intn(3000) - 10)
				now, is := processes(o), false
				for _, was := range history {
					is = is || was == now
				}
				if !is {
					t.Fatalf("T3: %s: not one of %q", now, history)
				}
				history = nil
			default:
				got = o.Deliver(r.Intn(o.Flight() + 1))
			}
			if got.E == api.Full {
				fulls++
			}
			history = append(history, processes(o))
			once(t, o)
		}
		for id := range o.Count() {
			c, _, _ := check.Compile(texts[id])
			l := o.Events(id)
			if len(l) > 8 {
				l = l[:8] // what may have happened may have begun so
			}
			is, sure := trace.Accepts(c, l, 3000)
			if sure && !is {
				t.Fatalf("T1: %s: %v", texts[id], l)
			}
			if sure {
				sures++
				events += len(l)
			}
		}
	}
	if sures < 300 || events < 300 || crashes < 300 || fulls < 100 {
		t.Errorf("only %d are sure, %d events, %d crashes, %d Full", sures, events, crashes, fulls)
	}
}

// The same calls in the same order answer the same; what is answered is new.
func TestP2P3(t *testing.T) {
	calls := func(seed int64, spoil bool) string {
		r := rand.New(rand.NewSource(seed))
		values := []int{1, 2, 3}
		o := orch.New(30000, values)
		values[0] = 99
		out := ""
		for range 150 {
			switch r.Intn(9) {
			case 0:
				out += fmt.Sprint(o.Submit(randomText(r)))
			case 1:
				o.Flush()
			case 2:
				o.Tick()
			case 3:
				out += fmt.Sprint(o.Snapshot(), o.Twice(r.Intn(3)))
			case 4:
				if r.Intn(4) == 0 {
					o.Crash(r.Intn(1000))
				}
			case 5, 6:
				out += fmt.Sprint(o.Deliver(r.Intn(3)))
			default:
				out += fmt.Sprint(o.Step(r.Intn(3), r.Intn(2)))
			}
			out += state(o)
			for id := range o.Count() {
				f, _, _, _ := o.Config(id)
				if spoil {
					spoilTerm(&f.T)
					for i := range f.Vars {
						f.Vars[i] = 77
					}
					for i := range f.Stacks {
						for j := range f.Stacks[i] {
							spoilTerm(&f.Stacks[i][j])
						}
					}
					for _, l := range [][]api.Event{o.Events(id), o.Applied()} {
						for i := range l {
							l[i] = api.Event{Name: "z"}
						}
					}
				}
			}
		}
		return out
	}
	for seed := range int64(10) {
		a, b, c := calls(seed, false), calls(seed, false), calls(seed, true)
		if a != b {
			t.Fatalf("P3: %d", seed)
		}
		if a != c {
			t.Fatalf("P2: %d: an answer shares memory", seed)
		}
	}
}

func spoilTerm(t *api.Term) {
	for i := range t.L {
		spoilTerm(&t.L[i])
	}
	for i := range t.E.L {
		t.E.L[i] = api.Expr{Kind: 77}
	}
	*t = api.Term{Kind: 77}
}

func TestP7SideBySide(t *testing.T) {
	a, b := orch.New(roomy, []int{1}), orch.New(roomy, []int{2})
	for _, o := range []*orch.Orch{a, b} {
		o.Submit("proc main { do a }")
		o.Step(0, 0)
	}
	a.Flush()
	if a.Flight() != 1 || b.Flight() != 0 {
		t.Error("P7: two touch one another")
	}
	b.Flush()
	b.Deliver(0)
	a.Deliver(0)
	if a.Applied()[0].Value != 1 || b.Applied()[0].Value != 2 {
		t.Error("P7: two touch one another")
	}
	a.Crash(0)
	if b.Flight() != 1 || b.Count() != 1 {
		t.Error("P7: two touch one another")
	}
}

// Between two actions a process takes so many steps only, or has a fault.
func TestT6ItEnds(t *testing.T) {
	r := rand.New(rand.NewSource(34))
	for range 200 {
		o := orch.New(1<<26, nil)
		for o.Submit(randomText(r)).E != api.OK {
		}
		n := 0
		for o.Step(0, 0) == (orch.Told{}) {
			if n++; n > 1000 {
				t.Fatalf("T6: %s", state(o))
			}
		}
	}
}
