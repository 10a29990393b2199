package code_test

import (
	"bytes"
	"fmt"
	"math"
	"math/rand"
	"testing"

	"penance/api"
	"penance/check"
	"penance/code"
	"penance/run"
	"penance/steps"
	"penance/term"
)

var (
	skip = api.Term{}
	one  = api.Expr{Kind: api.ENum, N: 1}
)

func do(name string) api.Term               { return api.Term{Kind: api.TDo, Name: name, A: -1} }
func wait(key int) api.Term                 { return api.Term{Kind: api.TWait, Name: "a", A: key, B: -1} }
func node(kind int, l ...api.Term) api.Term { return api.Term{Kind: kind, L: l} }
func seq(a, b api.Term) api.Term            { return node(api.TSeq, a, b) }
func par(a, b api.Term) api.Term            { return node(api.TPar, a, b) }
func set(e api.Expr) api.Term               { return api.Term{Kind: api.TSet, E: e} }

// same holds answers against each other: a nil list and an empty one are the same.
func same(a, b any) bool { return fmt.Sprintf("%+v", a) == fmt.Sprintf("%+v", b) }

// raw writes numbers by W5, and texts as they are.
func raw(l ...any) (b []byte) {
	for _, x := range l {
		switch x := x.(type) {
		case int:
			for i := range 8 {
				b = append(b, byte(uint64(x)>>(56-8*i)))
			}
		case string:
			b = append(b, x...)
		case []byte:
			b = append(b, x...)
		}
	}
	return b
}

var skipBytes = raw(0, 0, 0, 0, 0)

func TestP1001Core(t *testing.T) {
	for i, x := range []struct {
		c    api.Core
		want []byte
	}{
		{api.Core{Procs: []api.Term{skip}}, raw(0, 0, 1, skipBytes, 0)},
		{api.Core{Vars: []int{5, -2}, Stacks: 3, Procs: []api.Term{skip, do("ab")}, Main: 1}, raw(2, 5, -2, 3, 2, skipBytes, 1, -1, 0, 2, "ab", 0, 1)},
		{api.Core{Vars: []int{0}, Procs: []api.Term{set(api.Expr{Kind: api.ENeg, L: []api.Expr{one}})}}, raw(1, 0, 0, 1, 2, 0, 0, 0, 4, 0, 1, 1, 1, 0, 0, 0)},
		{api.Core{Vars: []int{math.MinInt}, Stacks: 2, Procs: []api.Term{{Kind: api.TIf, E: api.Expr{Kind: api.EVar}, L: []api.Term{{Kind: api.TMerge, A: 1, B: 0}, node(api.TBlock, skip)}}}}, raw(1, math.MinInt, 2, 1, 9, 0, 0, 0, 2, 0, 0, 2, 6, 1, 0, 0, 0, 7, 0, 0, 0, 1, skipBytes, 0)},
	} {
		if got := code.Core(x.c); !bytes.Equal(got, x.want) {
			t.Errorf("P1001: %d: %v; want %v", i, got, x.want)
		}
		if c, is := code.ReadCore(x.want); !is || !same(c, x.c) {
			t.Errorf("P1001: %d: %v, %v", i, c, is)
		}
	}
}

// place is where core is, not far from its beginning.
var core = api.Core{Vars: []int{5, 6}, Stacks: 2, Procs: []api.Term{skip, do("p")}}

func place(t api.Term) api.Config {
	return api.Config{T: t, Vars: []int{-1, 7}, Stacks: [][]api.Term{nil, {do("b"), skip}}, Steps: 9, Key: 4}
}

func TestP1001Config(t *testing.T) {
	f := place(par(api.Term{Kind: api.TWait, Name: "abc", A: 3, B: 1}, skip))
	want := raw(11, 0, 0, 0, 2, 14, 3, 1, 3, "abc", 0, skipBytes, 2, -1, 7, 2, 0, 2, 1, -1, 0, 1, "b", 0, skipBytes, 9, 4)
	if got := code.Config(f); !bytes.Equal(got, want) {
		t.Errorf("P1001: %v; want %v", got, want)
	}
	if g, is := code.ReadConfig(core, want); !is || !same(f, g) {
		t.Errorf("P1001: %v, %v", g, is)
	}
	if got := code.Config(api.Config{}); !bytes.Equal(got, raw(skipBytes, 0, 0, 0, 0)) {
		t.Errorf("P1001: %v", got)
	}
}

func big(n int) api.Term {
	t := skip
	for range n - 1 {
		t = node(api.TIf, t, skip)
		t.E = one
	}
	return t
}

func TestP1001ConfigsThatCanBe(t *testing.T) {
	with := func(change func(*api.Config)) api.Config {
		f := place(do("a"))
		change(&f)
		return f
	}
	row := do("a")
	for range 998 {
		row = seq(do("a"), row)
	}
	for i, x := range []struct {
		f    api.Config
		want bool
	}{
		{place(skip), true}, {place(do("a")), true}, {place(seq(do("a"), seq(skip, skip))), true}, {place(seq(do("a"), node(api.TBlock, skip))), true},
		{place(seq(skip, do("a"))), false}, {place(node(api.TBlock, skip)), false}, {place(par(skip, skip)), false}, {place(par(seq(skip, skip), do("a"))), false},
		{place(do("do")), false}, {place(api.Term{Kind: api.TDo, Name: "a", A: 2}), false}, {place(api.Term{Kind: api.TDo, Name: "a", A: 1}), true}, {place(api.Term{Kind: api.TReverse, A: 2}), false}, {place(api.Term{Kind: api.TReverse, A: 1}), true}, {place(api.Term{Kind: api.TCall, A: 2}), false}, {place(api.Term{Kind: api.TCall, A: 1}), true}, {place(api.Term{Kind: 15}), false}, {place(api.Term{Kind: -1}), false}, {place(node(api.TSeq, do("a"))), false}, {place(set(api.Expr{})), false}, {place(set(api.Expr{Kind: api.EVar, N: 2})), false}, {place(set(api.Expr{Kind: api.EVar, N: 1})), true},
		{place(wait(0)), true}, {place(wait(3)), true}, {place(wait(4)), false}, {place(wait(-1)), false}, {place(wait(math.MaxInt)), false},
		{place(par(wait(1), wait(2))), true}, {place(par(wait(2), wait(1))), true}, {place(par(wait(2), wait(2))), false}, {place(par(wait(2), par(wait(1), wait(2)))), false},
		{place(seq(wait(1), do("a"))), true}, {place(seq(do("a"), wait(1))), false}, {place(seq(wait(1), wait(2))), false}, {place(node(api.TBlock, wait(1))), true}, {place(node(api.TChoose, wait(1), skip)), false}, {place(node(api.TChoose, skip, wait(1))), false}, {place(par(do("a"), seq(wait(1), node(api.TBlock, wait(2))))), false}, {place(api.Term{Kind: api.TPush, L: []api.Term{wait(1)}}), false},
		{with(func(f *api.Config) { f.Vars = f.Vars[:1] }), false}, {with(func(f *api.Config) { f.Vars = append(f.Vars, 0) }), false}, {with(func(f *api.Config) { f.Vars = []int{math.MinInt, math.MaxInt} }), true}, {with(func(f *api.Config) { f.Vars = nil }), false},
		{with(func(f *api.Config) { f.Stacks = f.Stacks[:1] }), false}, {with(func(f *api.Config) { f.Stacks = append(f.Stacks, nil) }), false}, {with(func(f *api.Config) { f.Stacks = [][]api.Term{nil, nil} }), true}, {with(func(f *api.Config) { f.Stacks = nil }), false},
		{with(func(f *api.Config) { f.Stacks[0] = []api.Term{wait(1)} }), false}, {with(func(f *api.Config) { f.Stacks[1][0] = seq(do("a"), wait(1)) }), false}, {with(func(f *api.Config) { f.Stacks[1][1] = do("9") }), false}, {with(func(f *api.Config) { f.Stacks[1][1] = api.Term{Kind: api.TCall, A: 2} }), false}, {with(func(f *api.Config) { f.Stacks[0] = []api.Term{seq(skip, skip)} }), true},
		{with(func(f *api.Config) { f.Steps = 5000 }), true}, {with(func(f *api.Config) { f.Steps = 5001 }), false}, {with(func(f *api.Config) { f.Steps = -1 }), false}, {with(func(f *api.Config) { f.Steps = 0 }), true}, {with(func(f *api.Config) { f.Steps = math.MinInt }), false},
		{with(func(f *api.Config) { f.Key = 0 }), true}, {with(func(f *api.Config) { f.Key = -1 }), false}, {with(func(f *api.Config) { f.Key = math.MaxInt }), true}, {with(func(f *api.Config) { f.T, f.Key = wait(0), 0 }), false}, {with(func(f *api.Config) { f.T, f.Key = wait(0), 1 }), true},
		{place(row), true}, {place(seq(do("a"), row)), false}, {with(func(f *api.Config) { f.T, f.Stacks[0] = row, []api.Term{skip} }), true}, {with(func(f *api.Config) { f.T, f.Stacks[0] = row, []api.Term{skip, skip} }), false}, {with(func(f *api.Config) { f.T, f.Stacks = row, [][]api.Term{{skip, skip}, {skip}} }), true}, {with(func(f *api.Config) { f.T, f.Stacks = row, [][]api.Term{{skip}, {par(skip, skip)}} }), false},
	} {
		f, is := code.ReadConfig(core, code.Config(x.f))
		if is != x.want || is && !same(f, x.f) || !is && !same(f, api.Config{}) {
			t.Errorf("P1001: %d: %v, %v", i, f, is)
		}
	}
}

func TestP1001CoresThatCanBe(t *testing.T) {
	for i, x := range []struct {
		c    api.Core
		want bool
	}{
		{core, true}, {api.Core{}, false}, {api.Core{Procs: []api.Term{skip}, Main: 1}, false}, {api.Core{Procs: []api.Term{skip}, Main: -1}, false}, {api.Core{Procs: []api.Term{wait(0)}}, false}, {api.Core{Procs: []api.Term{skip, seq(do("a"), wait(0))}}, false}, {api.Core{Procs: make([]api.Term, 20)}, true}, {api.Core{Procs: make([]api.Term, 21)}, false}, {api.Core{Procs: make([]api.Term, 1), Vars: make([]int, 20), Stacks: 10}, true}, {api.Core{Procs: make([]api.Term, 1), Vars: make([]int, 21)}, false}, {api.Core{Procs: make([]api.Term, 1), Stacks: 11}, false}, {api.Core{Procs: make([]api.Term, 1), Stacks: -1}, false},
		{api.Core{Procs: []api.Term{big(1000)}}, true}, {api.Core{Procs: []api.Term{node(api.TBlock, big(1000))}}, true}, {api.Core{Procs: []api.Term{node(api.TBlock, node(api.TBlock, big(1000)))}}, false}, {api.Core{Procs: []api.Term{seq(skip, skip)}}, true}, {api.Core{Procs: []api.Term{do("A")}}, false}, {api.Core{Procs: []api.Term{{Kind: api.TExit, A: 1}}}, false},
	} {
		c, is := code.ReadCore(code.Core(x.c))
		if is != x.want || is && !same(c, x.c) || !is && !same(c, api.Core{}) {
			t.Errorf("P1001: %d: %v, %v", i, c, is)
		}
	}
}

// deep makes an expression of n that hang on one another behind the first one.
func deep(n int) api.Expr {
	x := one
	for range n {
		x = api.Expr{Kind: api.ENot, L: []api.Expr{x}}
	}
	return x
}

func TestP1001Deep(t *testing.T) {
	within := func(n int, t api.Term) api.Term {
		for range n {
			t = node(api.TBlock, t)
		}
		return t
	}
	for i, x := range []struct {
		t    api.Term
		want bool
	}{
		{set(deep(4000)), true}, {set(deep(4001)), false}, {within(10, set(deep(3990))), true}, {within(10, set(deep(3991))), false}, {within(1998, set(deep(2002))), true}, {within(1998, set(deep(2003))), false},
		{set(api.Expr{Kind: api.EAdd, L: []api.Expr{one, deep(3999)}}), true}, {set(api.Expr{Kind: api.EAdd, L: []api.Expr{one, deep(4000)}}), false},
	} {
		c := api.Core{Vars: []int{1}, Procs: []api.Term{skip, x.t}}
		if got, is := code.ReadCore(code.Core(c)); is != x.want || is && !bytes.Equal(code.Core(got), code.Core(c)) {
			t.Errorf("P1001: %d: %v", i, is)
		}
		f := api.Config{T: x.t, Vars: []int{1}}
		if got, is := code.ReadConfig(c, code.Config(f)); is != x.want || is && !bytes.Equal(code.Config(got), code.Config(f)) {
			t.Errorf("P1001: %d: %v", i, is)
		}
		c = api.Core{Vars: []int{1}, Stacks: 1, Procs: []api.Term{skip}}
		f = api.Config{Vars: []int{1}, Stacks: [][]api.Term{{x.t}}}
		if got, is := code.ReadConfig(c, code.Config(f)); is != x.want || is && !bytes.Equal(code.Config(got), code.Config(f)) {
			t.Errorf("P1001: %d: on a stack: %v", i, is)
		}
	}
	// Bytes that go deeper and deeper, and never come back.
	b := raw(0, 0, 1)
	for range 200000 {
		b = append(b, raw(7, 0, 0, 0, 1)...)
	}
	if _, is := code.ReadCore(b); is {
		t.Error("P1001: deeper than may be")
	}
	b = raw(0, 0, 1, 2, 0, 0, 0)
	for range 200000 {
		b = append(b, raw(3, 0, 1)...)
	}
	if _, is := code.ReadCore(b); is {
		t.Error("P1001: deeper than may be")
	}
}

func TestP1001WrongBytes(t *testing.T) {
	for i, b := range [][]byte{
		nil, {}, {0}, make([]byte, 8), raw(0, 0, 1, skipBytes), raw(0, 0, 1, skipBytes, 0, "x"), raw(0, 0, 1, skipBytes, 0)[1:], raw(0, 0, 2, skipBytes, 0),
		raw(-1, 0, 1, skipBytes, 0), raw(math.MaxInt, 0, 1, skipBytes, 0), raw(1<<40, 0, 1, skipBytes, 0), raw(0, 0, -1, 0), raw(0, 0, 1<<60, skipBytes, 0), raw(0, 0, 1, 0, 0, 0, -1, 0, 0), raw(0, 0, 1, 0, 0, 0, math.MaxInt, 0, 0), raw(0, 0, 1, 0, 0, 0, 0, -1, 0), raw(0, 0, 1, 0, 0, 0, 0, math.MinInt, 0),
		raw(0, 0, 1, 1, -1, 0, 1, "A", 0, 0), raw(0, 0, 1, 1, -1, 0, 1, "\xff", 0, 0), raw(0, 0, 1, 0, 0, 0, 1, "a", 0, 0), raw(0, 0, 1, 0, 0, 1, 0, 0, 0),
		raw(1, 0, 0, 1, 2, 0, 0, 0, 0, 0),       // an expression is missing
		raw(0, 0, 1, 0, 0, 0, 0, 1, 0, 0, 0, 0), // one that isn't asked for
	} {
		if c, is := code.ReadCore(b); is || !same(c, api.Core{}) {
			t.Errorf("P1001: %d: %v, %v", i, c, is)
		}
		if f, is := code.ReadConfig(api.Core{Procs: []api.Term{skip}}, b); is || !same(f, api.Config{}) {
			t.Errorf("P1001: %d: %v, %v", i, f, is)
		}
	}
	c := api.Core{Procs: []api.Term{skip}}
	if f, is := code.ReadConfig(c, raw(skipBytes, 0, 0, 0, 0)); !is || !same(f, api.Config{}) {
		t.Errorf("P1001: %v, %v", f, is)
	}
	for i, b := range [][]byte{raw(skipBytes, 0, 0, 0), raw(skipBytes, 0, 0, 0, 0, 0), raw(skipBytes, 1, 0, 0, 0, 0), raw(skipBytes, 0, 1, 0, 0, 0), raw(skipBytes, -1, 0, 0, 0), raw(skipBytes, 0, math.MaxInt, 0, 0), raw(skipBytes, 0, 0, 5001, 0), raw(skipBytes, 0, 0, 0, -1)} {
		if f, is := code.ReadConfig(c, b); is || !same(f, api.Config{}) {
			t.Errorf("P1001: %d: %v, %v", i, f, is)
		}
	}
}

func randomBody(r *rand.Rand, deep int) string {
	in := func() string { return "{ " + randomBody(r, deep-1) + " }" }
	leaves := []string{"skip", "do x", "do y -> v", "do z -> w", "exit", "v := -v + 1", "w := !(w == 3) || 4 > v", "reverse s", "reverse t", "accept s", "merge s t", "do x; call a", "push s { do y }", "push t { do x -> w; v := 0 }", "choose { do x } { call a }"}
	if deep == 0 {
		return leaves[r.Intn(len(leaves))]
	}
	switch r.Intn(6) {
	case 0:
		return "block " + in()
	case 1:
		return "if v < 3 && w != 1 " + in() + " else " + in()
	case 2, 3:
		return "par " + in() + in()
	}
	return in() + "; " + in()
}

func randomCore(r *rand.Rand) api.Core {
	for {
		c, _, e := check.Compile("var v 1 var w -4 stack s stack t proc a { do a; " + randomBody(r, 2) + " } proc main { " + randomBody(r, 1+r.Intn(4)) + " }")
		if e == api.OK {
			return c
		}
	}
}

// advance goes on at random.
func advance(r *rand.Rand, c api.Core, f api.Config) api.Config {
	w, n := term.Waits(f.T), len(steps.Enabled(f.T))
	if len(w) > 0 && (n == 0 || r.Intn(3) == 0) {
		g, _, _ := run.Tell(c, f, w[r.Intn(len(w))], r.Intn(9)-4)
		return g
	}
	if n == 0 {
		return f
	}
	if g, _, _, e := run.Do(c, f, r.Intn(n)); e == api.OK {
		return g
	}
	return f
}

func TestP1002ThereAndBack(t *testing.T) {
	r := rand.New(rand.NewSource(28))
	for range 600 {
		c := randomCore(r)
		b := code.Core(c)
		d, is := code.ReadCore(b)
		if !is || !same(c, d) || !bytes.Equal(code.Core(d), b) {
			t.Fatalf("P1002: %v: %v, %v", c, d, is)
		}
		f := run.Begin(c)
		for range 25 {
			b := code.Config(f)
			g, is := code.ReadConfig(c, b)
			if !is || !same(f, g) || !bytes.Equal(code.Config(g), b) {
				t.Fatalf("P1002: %v: %v, %v", f, g, is)
			}
			f = advance(r, c, f)
		}
	}
}

// What is read of spoilt bytes is written as these again, and may be.
func TestP1001Spoilt(t *testing.T) {
	r := rand.New(rand.NewSource(29))
	read := 0
	for range 300 {
		c := randomCore(r)
		f := run.Begin(c)
		for range r.Intn(20) {
			f = advance(r, c, f)
		}
		for range 60 {
			b, d := spoilt(r, code.Core(c)), spoilt(r, code.Config(f))
			kept, keptConfig := string(b), string(d)
			if got, is := code.ReadCore(b); is {
				read++
				if string(code.Core(got)) != kept || !run.Check(got) {
					t.Fatalf("P1001: %v", got)
				}
			} else if !same(got, api.Core{}) {
				t.Fatalf("P4: %v", got)
			}
			if got, is := code.ReadConfig(c, d); is {
				read++
				if string(code.Config(got)) != keptConfig || !term.Right(got.T, 2, 2, 2) || got.Steps < 0 || got.Steps > api.MaxSteps || got.Key < 0 {
					t.Fatalf("P1001: %v", got)
				}
				for pick := range steps.Enabled(got.T) {
					run.Do(c, got, pick)
				}
			} else if !same(got, api.Config{}) {
				t.Fatalf("P4: %v", got)
			}
			if string(b) != kept || string(d) != keptConfig {
				t.Fatal("P2: bytes are changed")
			}
		}
	}
	if read < 100 {
		t.Errorf("only %d are read", read)
	}
}

func spoilt(r *rand.Rand, b []byte) []byte {
	b = append([]byte(nil), b...)
	switch r.Intn(4) {
	case 0:
		b[r.Intn(len(b))] = byte(r.Intn(256))
	case 1:
		i := r.Intn(len(b))/8*8 + 7
		b[min(i, len(b)-1)] += byte(r.Intn(3) - 1)
	case 2:
		b = b[:r.Intn(len(b))]
	case 3:
		i := r.Intn(len(b))
		b = append(b[:i:i], append(raw(r.Intn(3)), b[i:]...)...)
	}
	return b
}

func TestP2AnswersAreNew(t *testing.T) {
	c := core
	c.Procs = []api.Term{seq(do("a"), set(deep(2)))}
	b := code.Core(c)
	d, _ := code.ReadCore(b)
	for i := range b {
		b[i] = 0xee
	}
	if !same(c, d) {
		t.Error("P2: what is read shares memory with its bytes")
	}
	f := place(par(wait(1), do("b")))
	b = code.Config(f)
	g, _ := code.ReadConfig(core, b)
	for i := range b {
		b[i] = 0xee
	}
	if !same(f, g) {
		t.Error("P2: what is read shares memory with its bytes")
	}
	g.T.L[0].Name, g.Stacks[1][0].Name, g.Vars[0] = "z", "z", 9
	if !same(f, place(par(wait(1), do("b")))) || bytes.Equal(code.Config(f), code.Config(g)) {
		t.Error("P2: answers share memory")
	}
}

func TestP1Anything(t *testing.T) {
	r := rand.New(rand.NewSource(30))
	for range 5000 {
		x := api.Term{Kind: r.Intn(18) - 1, A: r.Int() - r.Int(), Name: "é", L: make([]api.Term, r.Intn(3)), E: api.Expr{Kind: 77, L: make([]api.Expr, r.Intn(2))}}
		c := api.Core{Stacks: r.Intn(4) - 2, Main: -r.Intn(3), Procs: []api.Term{x}[:r.Intn(2)]}
		f := api.Config{T: x, Steps: -1, Stacks: [][]api.Term{{x}}}
		if _, is := code.ReadCore(code.Core(c)); is != run.Check(c) && is {
			t.Fatalf("P1001: %v", c)
		}
		code.ReadConfig(c, code.Config(f))
	}
}
