package steps_test

import (
	"fmt"
	"math/rand"
	"testing"

	"penance/api"
	"penance/steps"
	"penance/term"
)

var (
	skip = api.Term{}
	exit = api.Term{Kind: api.TExit}
	do   = api.Term{Kind: api.TDo, Name: "a", A: -1}
	wait = api.Term{Kind: api.TWait, Name: "a", A: 5, B: -1}
	pick = node(api.TChoose, skip, skip)
	one  = api.Expr{Kind: api.ENum, N: 1}
	set  = api.Term{Kind: api.TSet, E: one}
)

func node(kind int, l ...api.Term) api.Term { return api.Term{Kind: kind, L: l} }
func seq(a, b api.Term) api.Term            { return node(api.TSeq, a, b) }
func par(a, b api.Term) api.Term            { return node(api.TPar, a, b) }
func block(a api.Term) api.Term             { return node(api.TBlock, a) }

func step(kind int, path ...int) api.Step { return api.Step{Kind: kind, Path: path} }
func way(kind, alt int, path ...int) api.Step {
	return api.Step{Kind: kind, Alt: alt, Path: path}
}

// same holds answers against each other: a nil list and an empty one are the same.
func same(a, b any) bool { return fmt.Sprintf("%+v", a) == fmt.Sprintf("%+v", b) }

func TestP701Enabled(t *testing.T) {
	for i, x := range []struct {
		t      api.Term
		want   []api.Step
		status int
	}{
		{skip, nil, api.Done},
		{block(par(skip, seq(skip, skip))), nil, api.Done},
		{wait, nil, api.Waiting},
		{block(seq(wait, do)), nil, api.Waiting},
		{par(wait, skip), nil, api.Waiting},
		{do, []api.Step{step(api.TDo)}, api.Live},
		{set, []api.Step{step(api.TSet)}, api.Live},
		{api.Term{Kind: api.TPush, L: []api.Term{do}}, []api.Step{step(api.TPush)}, api.Live},
		{api.Term{Kind: api.TReverse}, []api.Step{step(api.TReverse)}, api.Live},
		{api.Term{Kind: api.TAccept}, []api.Step{step(api.TAccept)}, api.Live},
		{api.Term{Kind: api.TMerge}, []api.Step{step(api.TMerge)}, api.Live},
		{api.Term{Kind: api.TCall}, []api.Step{step(api.TCall)}, api.Live},
		{api.Term{Kind: api.TIf, E: one, L: []api.Term{do, do}}, []api.Step{step(api.TIf)}, api.Live},
		{pick, []api.Step{way(api.TChoose, 0), way(api.TChoose, 1)}, api.Live},
		{node(api.TChoose, do, wait), []api.Step{way(api.TChoose, 0), way(api.TChoose, 1)}, api.Live},
		{exit, []api.Step{step(api.TExit)}, api.Live},
		{seq(do, set), []api.Step{step(api.TDo, 0)}, api.Live},
		{seq(skip, set), []api.Step{step(api.TSet)}, api.Live},
		{seq(wait, set), nil, api.Waiting},
		{block(do), []api.Step{step(api.TDo, 0)}, api.Live},
		{block(seq(skip, do)), []api.Step{step(api.TDo, 0)}, api.Live},
		{par(do, set), []api.Step{step(api.TDo, 0), step(api.TSet, 1)}, api.Live},
		{par(skip, set), []api.Step{step(api.TSet, 1)}, api.Live},
		{par(pick, wait), []api.Step{way(api.TChoose, 0, 0), way(api.TChoose, 1, 0)}, api.Live},
		{par(seq(block(do), skip), par(set, seq(pick, do))), []api.Step{step(api.TDo, 0, 0, 0), step(api.TSet, 1, 0), way(api.TChoose, 0, 1, 1, 0), way(api.TChoose, 1, 1, 1, 0)}, api.Live},
		{seq(seq(seq(do, do), do), do), []api.Step{step(api.TDo, 0, 0, 0)}, api.Live},
	} {
		if got := steps.Enabled(x.t); !same(got, x.want) {
			t.Errorf("P701: %d: %v; want %v", i, got, x.want)
		}
		if got := steps.Status(x.t); got != x.status {
			t.Errorf("P701: %d: Status %d; want %d", i, got, x.status)
		}
	}
}

func TestP701Exit(t *testing.T) {
	for i, x := range []struct {
		t      api.Term
		want   []api.Step
		status int
	}{
		{par(exit, wait), nil, api.Waiting},
		{par(wait, exit), nil, api.Waiting},
		{par(exit, do), []api.Step{step(api.TExit, 0), step(api.TDo, 1)}, api.Live},
		{par(exit, skip), []api.Step{step(api.TExit, 0)}, api.Live},
		{par(exit, exit), []api.Step{step(api.TExit, 0), step(api.TExit, 1)}, api.Live},
		{par(exit, seq(do, wait)), []api.Step{step(api.TExit, 0), step(api.TDo, 1, 0)}, api.Live},
		{par(exit, seq(skip, wait)), nil, api.Waiting},
		{seq(exit, wait), []api.Step{step(api.TExit, 0)}, api.Live},
		{block(exit), []api.Step{step(api.TExit, 0)}, api.Live},
		{par(block(exit), wait), []api.Step{step(api.TExit, 0, 0)}, api.Live},
		{block(par(exit, wait)), nil, api.Waiting},
		{block(par(block(exit), wait)), []api.Step{step(api.TExit, 0, 0, 0)}, api.Live},
		{block(par(exit, block(wait))), nil, api.Waiting},
		{block(par(exit, block(seq(do, wait)))), []api.Step{step(api.TExit, 0, 0), step(api.TDo, 0, 1, 0, 0)}, api.Live},
		{par(block(par(wait, exit)), exit), nil, api.Waiting},
		{par(block(par(do, exit)), exit), []api.Step{step(api.TDo, 0, 0, 0), step(api.TExit, 0, 0, 1), step(api.TExit, 1)}, api.Live},
		{par(block(wait), seq(block(seq(exit, do)), exit)), []api.Step{step(api.TExit, 1, 0, 0, 0)}, api.Live},
		{par(wait, par(exit, set)), []api.Step{step(api.TSet, 1, 1)}, api.Live},
		{seq(block(par(exit, wait)), do), nil, api.Waiting},
		{seq(block(seq(exit, do)), wait), []api.Step{step(api.TExit, 0, 0, 0)}, api.Live},
	} {
		if got := steps.Enabled(x.t); !same(got, x.want) {
			t.Errorf("P701: %d: %v; want %v", i, got, x.want)
		}
		if got := steps.Status(x.t); got != x.status {
			t.Errorf("P701: %d: Status %d; want %d", i, got, x.status)
		}
	}
}

func random(r *rand.Rand, deep int) api.Term {
	leaves := []api.Term{skip, exit, do, wait, set, pick, {Kind: api.TReverse}, {Kind: api.TCall}, skip, exit, wait}
	if deep == 0 {
		return leaves[r.Intn(len(leaves))]
	}
	a, b := random(r, deep-1), random(r, deep-1)
	return []api.Term{a, seq(a, b), par(a, b), par(b, a), block(a), node(api.TChoose, a, b), {Kind: api.TIf, E: one, L: []api.Term{a, b}}}[r.Intn(7)]
}

// enabled is P701 of what is normed: within is the innermost block.
func enabled(t, within api.Term, path []int) (l []api.Step) {
	deeper := func(i int) []int { return append(append([]int(nil), path...), i) }
	switch t.Kind {
	case api.TSkip, api.TWait:
		return nil
	case api.TSeq:
		return enabled(t.L[0], within, deeper(0))
	case api.TBlock:
		return enabled(t.L[0], t, deeper(0))
	case api.TPar:
		return append(enabled(t.L[0], within, deeper(0)), enabled(t.L[1], within, deeper(1))...)
	case api.TChoose:
		return []api.Step{{Kind: t.Kind, Path: path}, {Kind: t.Kind, Path: path, Alt: 1}}
	case api.TExit:
		if len(term.Waits(within)) > 0 {
			return nil
		}
	}
	return []api.Step{{Kind: t.Kind, Path: path}}
}

func TestP701Random(t *testing.T) {
	r := rand.New(rand.NewSource(22))
	for range 20000 {
		x := random(r, 1+r.Intn(5))
		was, n := fmt.Sprintf("%+v", x), term.Norm(x)
		got, want := steps.Enabled(x), enabled(n, n, nil)
		if !same(got, want) {
			t.Fatalf("P701: %v: %v; want %v", x, got, want)
		}
		status := api.Waiting
		if n.Kind == api.TSkip {
			status = api.Done
		} else if len(want) > 0 {
			status = api.Live
		}
		if steps.Status(x) != status {
			t.Fatalf("P701: %v: Status %d; want %d", x, steps.Status(x), status)
		}
		if fmt.Sprintf("%+v", x) != was {
			t.Fatalf("P2: %s is changed", was)
		}
	}
}

// No two paths share memory, spare room neither.
func TestP2PathsAreNew(t *testing.T) {
	x := par(par(pick, seq(block(do), skip)), par(exit, pick))
	l := steps.Enabled(x)
	want := fmt.Sprint(l)
	for i := range l {
		_ = append(l[i].Path, 77)
		for j := range l[i].Path {
			kept := l[i].Path[j]
			l[i].Path[j] = 99
			got := 0
			for k := range l {
				for _, n := range l[k].Path[:cap(l[k].Path)] {
					if n == 99 {
						got++
					}
				}
			}
			if got != 1 {
				t.Fatalf("P2: step %d shares its path", i)
			}
			l[i].Path[j] = kept
		}
	}
	if fmt.Sprint(l) != want || !same(steps.Enabled(x), l) {
		t.Error("P2: paths share memory")
	}
}

func TestDeep(t *testing.T) {
	x, y := do, do
	for range 3999 {
		x, y = block(x), seq(y, skip)
	}
	for _, z := range []api.Term{x, y} {
		if l := steps.Enabled(z); len(l) != 1 || len(l[0].Path) != 3999 || steps.Status(z) != api.Live {
			t.Errorf("P701: %d steps", len(l))
		}
	}
	x = exit
	for range 1000 {
		x = par(exit, x)
	}
	if l := steps.Enabled(x); len(l) != 1001 {
		t.Errorf("P701: %d steps", len(l))
	}
	if l := steps.Enabled(par(x, wait)); len(l) != 0 {
		t.Errorf("P701: %d steps", len(l))
	}
}

func wild(r *rand.Rand, deep int) api.Term {
	t := api.Term{Kind: r.Intn(18) - 1, A: r.Intn(5) - 2}
	if deep > 0 {
		for range r.Intn(4) {
			t.L = append(t.L, wild(r, deep-1))
		}
	}
	return t
}

func TestP1AnyTerm(t *testing.T) {
	r := rand.New(rand.NewSource(23))
	for range 20000 {
		x := wild(r, 4)
		was := fmt.Sprint(x)
		steps.Enabled(x)
		steps.Status(x)
		if fmt.Sprint(x) != was {
			t.Fatalf("P2: %s is changed", was)
		}
	}
}
