package term_test

import (
	"fmt"
	"math/rand"
	"strings"
	"testing"

	"penance/api"
	"penance/term"
)

var (
	skip = api.Term{}
	exit = api.Term{Kind: api.TExit}
	one  = api.Expr{Kind: api.ENum, N: 1}
)

func do(name string, to int) api.Term       { return api.Term{Kind: api.TDo, Name: name, A: to} }
func wait(key int) api.Term                 { return api.Term{Kind: api.TWait, Name: "a", A: key, B: -1} }
func node(kind int, l ...api.Term) api.Term { return api.Term{Kind: kind, L: l} }
func seq(a, b api.Term) api.Term            { return node(api.TSeq, a, b) }
func par(a, b api.Term) api.Term            { return node(api.TPar, a, b) }
func block(a api.Term) api.Term             { return node(api.TBlock, a) }
func set(to int, e api.Expr) api.Term       { return api.Term{Kind: api.TSet, A: to, E: e} }
func push(s int, a api.Term) api.Term       { return api.Term{Kind: api.TPush, A: s, L: []api.Term{a}} }
func branch(e api.Expr, a, b api.Term) api.Term {
	return api.Term{Kind: api.TIf, E: e, L: []api.Term{a, b}}
}

// same holds answers against each other: a nil list and an empty one are the same.
func same(a, b any) bool { return fmt.Sprintf("%+v", a) == fmt.Sprintf("%+v", b) }

func copied(t api.Term) api.Term {
	u := t
	u.L, u.E = nil, copiedExpr(t.E)
	for _, c := range t.L {
		u.L = append(u.L, copied(c))
	}
	return u
}

func copiedExpr(x api.Expr) api.Expr {
	y := x
	y.L = nil
	for _, c := range x.L {
		y.L = append(y.L, copiedExpr(c))
	}
	return y
}

// rights: one of each kind, Right of 3 variables, 2 stacks, 4 processes.
var rights = map[int]api.Term{
	api.TSkip: skip, api.TDo: do("a", 2), api.TSet: set(2, one), api.TPush: push(1, skip), api.TReverse: {Kind: api.TReverse, A: 1}, api.TAccept: {Kind: api.TAccept, A: 1}, api.TMerge: {Kind: api.TMerge, A: 1, B: 1}, api.TBlock: block(skip), api.TExit: exit, api.TIf: branch(one, skip, skip), api.TChoose: node(api.TChoose, skip, skip), api.TPar: par(skip, skip), api.TSeq: seq(skip, skip), api.TCall: {Kind: api.TCall, A: 3}, api.TWait: {Kind: api.TWait, Name: "a", A: 7, B: 2},
}

func right(t api.Term) bool { return term.Right(t, 3, 2, 4) }

func TestP501EachKind(t *testing.T) {
	for kind, x := range rights {
		if !right(x) {
			t.Errorf("P501: kind %d: %v is not Right", kind, x)
		}
		if right(block(x)) != true || right(seq(skip, x)) != true || right(branch(one, x, skip)) != true {
			t.Errorf("P501: kind %d within others", kind)
		}
		if right(push(0, x)) != (kind != api.TWait) || right(push(0, seq(skip, block(x)))) != (kind != api.TWait) {
			t.Errorf("P501: kind %d within a TPush", kind)
		}
		spoilt := func(what string, spoil func(*api.Term)) {
			y := copied(x)
			spoil(&y)
			if right(y) || right(block(y)) || right(par(skip, y)) || right(node(api.TChoose, y, skip)) || right(push(0, y)) {
				t.Errorf("P501: kind %d, %s: %v is Right", kind, what, y)
			}
		}
		if kind != api.TDo && kind != api.TWait {
			spoilt("a name", func(y *api.Term) { y.Name = "a" })
		}
		if kind != api.TSet && kind != api.TIf {
			spoilt("an expression", func(y *api.Term) { y.E = one })
			spoilt("an expression's number", func(y *api.Term) { y.E.N = 1 })
			spoilt("an expression's name", func(y *api.Term) { y.E.Name = "a" })
			spoilt("an expression's child", func(y *api.Term) { y.E.L = []api.Expr{one} })
			spoilt("an expression of a kind", func(y *api.Term) { y.E.Kind = -1 })
		}
		spoilt("a child more", func(y *api.Term) { y.L = append(y.L, skip) })
		if len(x.L) > 0 {
			spoilt("a child less", func(y *api.Term) { y.L = y.L[1:] })
			spoilt("a child that isn't", func(y *api.Term) { y.L[len(y.L)-1].Kind = 15 })
			spoilt("a first child that isn't", func(y *api.Term) { y.L[0].A = 1 })
		}
		if kind != api.TMerge && kind != api.TWait {
			spoilt("B", func(y *api.Term) { y.B = 1 })
			spoilt("B below", func(y *api.Term) { y.B = -1 })
		}
		switch kind {
		case api.TWait:
			spoilt("A below", func(y *api.Term) { y.A = -1 })
		case api.TDo, api.TSet, api.TPush, api.TReverse, api.TAccept, api.TMerge, api.TCall:
			spoilt("A above", func(y *api.Term) { y.A++ })
			spoilt("A below", func(y *api.Term) { y.A = -2 })
		default:
			spoilt("A", func(y *api.Term) { y.A = 1 })
			spoilt("A below", func(y *api.Term) { y.A = -1 })
		}
	}
	for _, kind := range []int{-1, 15, 100, -1 << 63, 1<<63 - 1} {
		if right(node(kind)) || right(node(kind, skip)) {
			t.Errorf("P501: kind %d is Right", kind)
		}
	}
}

func TestP501Numbers(t *testing.T) {
	for i, x := range []struct {
		t                   api.Term
		vars, stacks, procs int
		want                bool
	}{
		{do("a", -1), 0, 0, 0, true}, {do("a", 0), 0, 9, 9, false}, {do("a", 0), 1, 0, 0, true}, {do("a", 1), 1, 9, 9, false}, {do("a", -2), 9, 9, 9, false},
		{set(0, one), 0, 9, 9, false}, {set(0, one), 1, 0, 0, true}, {set(-1, one), 9, 9, 9, false}, {set(1, one), 1, 9, 9, false},
		{set(0, api.Expr{Kind: api.EVar, N: 1}), 1, 9, 9, false}, {set(0, api.Expr{Kind: api.EVar, N: 1}), 2, 0, 0, true}, {set(0, api.Expr{}), 2, 9, 9, false}, {set(0, api.Expr{Kind: api.EVar, Name: "x"}), 2, 9, 9, false},
		{branch(api.Expr{Kind: api.EVar, N: 1}, skip, skip), 1, 9, 9, false}, {branch(api.Expr{Kind: api.EVar}, skip, skip), 1, 0, 0, true}, {branch(api.Expr{}, skip, skip), 9, 9, 9, false}, {branch(api.Expr{Kind: api.ENum, N: -1}, skip, skip), 9, 9, 9, false},
		{push(0, skip), 9, 0, 9, false}, {push(0, skip), 0, 1, 0, true}, {push(-1, skip), 9, 9, 9, false}, {push(1, skip), 9, 1, 9, false},
		{api.Term{Kind: api.TReverse}, 9, 0, 9, false}, {api.Term{Kind: api.TReverse}, 0, 1, 0, true}, {api.Term{Kind: api.TAccept}, 9, 0, 9, false}, {api.Term{Kind: api.TAccept}, 0, 1, 0, true},
		{api.Term{Kind: api.TMerge}, 9, 0, 9, false}, {api.Term{Kind: api.TMerge}, 0, 1, 0, true}, {api.Term{Kind: api.TMerge, A: 1, B: 2}, 9, 2, 9, false}, {api.Term{Kind: api.TMerge, A: 2, B: 1}, 9, 2, 9, false}, {api.Term{Kind: api.TMerge, A: 2, B: 1}, 0, 3, 0, true}, {api.Term{Kind: api.TMerge, A: 1, B: -1}, 9, 9, 9, false},
		{api.Term{Kind: api.TCall}, 9, 9, 0, false}, {api.Term{Kind: api.TCall}, 0, 0, 1, true}, {api.Term{Kind: api.TCall, A: 1}, 9, 9, 1, false}, {api.Term{Kind: api.TCall, A: -1}, 9, 9, 9, false},
		{wait(0), 0, 0, 0, true}, {wait(1 << 60), 0, 0, 0, true}, {wait(-1), 9, 9, 9, false}, {api.Term{Kind: api.TWait, Name: "a"}, 0, 9, 9, false}, {api.Term{Kind: api.TWait, Name: "a"}, 1, 0, 0, true}, {api.Term{Kind: api.TWait, Name: "a", B: -2}, 9, 9, 9, false}, {api.Term{Kind: api.TWait, Name: "a", B: 1}, 1, 9, 9, false},
		{skip, -1, -1, -1, true}, {do("a", -1), -1, -1, -1, true}, {do("a", 0), -1, 9, 9, false},
	} {
		if term.Right(x.t, x.vars, x.stacks, x.procs) != x.want {
			t.Errorf("P501: %d: %v is not %v", i, x.t, x.want)
		}
	}
}

func TestP501Names(t *testing.T) {
	for s, want := range map[string]bool{"a": true, "main": true, "a_1": true, strings.Repeat("a", 20): true, strings.Repeat("a", 21): false, "": false, "do": false, "call": false, "A": false, "1a": false, "a b": false, "é": false} {
		if right(do(s, -1)) != want || right(api.Term{Kind: api.TWait, Name: s, B: -1}) != want {
			t.Errorf("P501: the name %q is not %v", s, want)
		}
	}
}

// random makes what is Right of 3 variables, 2 stacks, 4 processes.
func random(r *rand.Rand, deep int, waits bool) api.Term {
	kind := r.Intn(15)
	for kind == api.TWait && !waits {
		kind = r.Intn(15)
	}
	t := copied(rights[kind])
	if deep == 0 && len(t.L) > 0 {
		return []api.Term{skip, do("b", -1), exit}[r.Intn(3)]
	}
	if t.Kind == api.TWait {
		t.A = r.Intn(50)
	}
	for i := range t.L {
		t.L[i] = random(r, deep-1, waits && kind != api.TPush)
	}
	return t
}

func TestP501Size(t *testing.T) {
	for n, x := range map[int]api.Term{1: exit, 2: block(skip), 3: seq(exit, skip), 4: push(0, par(skip, skip)), 6: branch(one, block(skip), block(block(skip)))} {
		if term.Size(x) != n {
			t.Errorf("P501: Size of %v: %d; want %d", x, term.Size(x), n)
		}
	}
	r := rand.New(rand.NewSource(15))
	for range 2000 {
		x := random(r, 4, true)
		n := 0
		var count func(api.Term)
		count = func(t api.Term) {
			n++
			for _, c := range t.L {
				count(c)
			}
		}
		count(x)
		if term.Size(x) != n || !right(x) {
			t.Fatalf("P501: Size of %v: %d; want %d", x, term.Size(x), n)
		}
	}
}

func TestP501Same(t *testing.T) {
	r := rand.New(rand.NewSource(16))
	for range 3000 {
		x, y := random(r, 3, true), random(r, 3, true)
		if !term.Same(x, copied(x)) || term.Same(x, y) != same(x, y) {
			t.Fatalf("P501: Same of %v, %v", x, y)
		}
	}
	full := api.Term{Kind: 9, A: 1, B: 2, Name: "n", E: api.Expr{Kind: 4, N: 5, Name: "m", L: []api.Expr{one, one}}, L: []api.Term{exit, skip}}
	for i, change := range []func(*api.Term){
		func(t *api.Term) { t.Kind++ }, func(t *api.Term) { t.A++ }, func(t *api.Term) { t.B++ }, func(t *api.Term) { t.A, t.B = t.B, t.A }, func(t *api.Term) { t.Name = "o" }, func(t *api.Term) { t.Name = "" },
		func(t *api.Term) { t.E.Kind++ }, func(t *api.Term) { t.E.N++ }, func(t *api.Term) { t.E.Name = "" }, func(t *api.Term) { t.E.L = t.E.L[:1] }, func(t *api.Term) { t.E.L = nil }, func(t *api.Term) { t.E.L[1].N++ }, func(t *api.Term) { t.E.L[0].L = []api.Expr{{}} },
		func(t *api.Term) { t.L = t.L[:1] }, func(t *api.Term) { t.L = nil }, func(t *api.Term) { t.L[0], t.L[1] = t.L[1], t.L[0] }, func(t *api.Term) { t.L[1].A = 1 }, func(t *api.Term) { t.L[0].L = []api.Term{{}} }, func(t *api.Term) { t.L = append(t.L, api.Term{}) }, func(t *api.Term) { t.L[1].E.N = 1 },
	} {
		x := copied(full)
		change(&x)
		if term.Same(full, x) || term.Same(x, full) || term.Same(block(full), block(x)) || !term.Same(x, copied(x)) {
			t.Errorf("P501: change %d: %v", i, x)
		}
	}
	if !term.Same(api.Term{L: []api.Term{}, E: api.Expr{L: []api.Expr{}}}, api.Term{}) || !term.Same(api.Term{}, api.Term{L: []api.Term{}}) {
		t.Error("P501: no list and an empty one")
	}
}

func TestP502Norm(t *testing.T) {
	a, b, w := do("a", 0), do("b", -1), wait(3)
	for i, x := range []struct{ t, want api.Term }{
		{skip, skip}, {exit, exit}, {a, a}, {w, w},
		{block(skip), skip}, {block(a), block(a)}, {block(block(skip)), skip}, {block(exit), block(exit)},
		{seq(skip, a), a}, {seq(a, skip), seq(a, skip)}, {seq(skip, skip), skip}, {seq(a, b), seq(a, b)}, {seq(seq(skip, a), b), seq(a, b)}, {seq(skip, seq(skip, a)), a},
		{seq(a, seq(skip, b)), seq(a, seq(skip, b))}, {seq(a, block(skip)), seq(a, block(skip))}, {seq(seq(skip, skip), block(skip)), skip}, {seq(block(skip), seq(block(skip), block(a))), block(a)},
		{par(skip, skip), skip}, {par(skip, a), par(skip, a)}, {par(a, skip), par(a, skip)}, {par(seq(skip, a), block(skip)), par(a, skip)}, {par(par(skip, skip), block(par(skip, skip))), skip}, {par(skip, block(seq(skip, w))), par(skip, block(w))},
		{branch(one, seq(skip, a), block(skip)), branch(one, seq(skip, a), block(skip))}, {node(api.TChoose, block(skip), block(skip)), node(api.TChoose, block(skip), block(skip))}, {push(0, block(skip)), push(0, block(skip))}, {seq(push(0, skip), skip), seq(push(0, skip), skip)},
		{seq(seq(par(skip, skip), par(block(skip), b)), seq(skip, a)), seq(par(skip, b), seq(skip, a))},
	} {
		was := copied(x.t)
		got := term.Norm(x.t)
		if !same(got, x.want) {
			t.Errorf("P502: %d: Norm of %v: %v; want %v", i, x.t, got, x.want)
		}
		if !same(x.t, was) {
			t.Errorf("P2: %d: %v is changed", i, was)
		}
	}
}

// normed is whether Norm would change nothing.
func normed(t api.Term) bool {
	switch t.Kind {
	case api.TSeq:
		return t.L[0].Kind != api.TSkip && normed(t.L[0])
	case api.TPar:
		return (t.L[0].Kind != api.TSkip || t.L[1].Kind != api.TSkip) && normed(t.L[0]) && normed(t.L[1])
	case api.TBlock:
		return t.L[0].Kind != api.TSkip && normed(t.L[0])
	}
	return true
}

// waits is P502's by the word W3.
func waits(t api.Term) (l []int) {
	switch t.Kind {
	case api.TWait:
		return []int{t.A}
	case api.TSeq, api.TBlock:
		return waits(t.L[0])
	case api.TPar:
		return append(waits(t.L[0]), waits(t.L[1])...)
	}
	return nil
}

func TestP502Random(t *testing.T) {
	r := rand.New(rand.NewSource(17))
	for range 5000 {
		x := random(r, 5, true)
		n := term.Norm(x)
		if !normed(n) || !right(n) || normed(x) && !same(n, x) || !same(term.Norm(n), n) {
			t.Fatalf("P502: Norm of %v: %v", x, n)
		}
		if got := term.Waits(x); !same(got, waits(x)) {
			t.Fatalf("P502: Waits of %v: %v", x, got)
		}
		if got := term.Waits(n); !same(got, waits(n)) {
			t.Fatalf("P502: Waits of %v: %v", n, got)
		}
	}
}

func TestP502Waits(t *testing.T) {
	for i, x := range []struct {
		t    api.Term
		want []int
	}{
		{skip, nil}, {wait(4), []int{4}}, {block(wait(4)), []int{4}}, {seq(wait(4), wait(5)), []int{4}}, {seq(skip, wait(5)), nil}, {par(wait(9), wait(2)), []int{9, 2}}, {par(wait(1), wait(1)), []int{1, 1}},
		{par(seq(par(wait(7), skip), wait(6)), block(par(wait(5), wait(4)))), []int{7, 5, 4}}, {branch(one, wait(1), wait(2)), nil}, {node(api.TChoose, wait(1), wait(2)), nil}, {push(0, wait(1)), nil}, {seq(block(seq(wait(0), skip)), skip), []int{0}},
	} {
		if got := term.Waits(x.t); !same(got, x.want) {
			t.Errorf("P502: %d: Waits of %v: %v; want %v", i, x.t, got, x.want)
		}
	}
}

func TestDeep(t *testing.T) {
	x, y, z := skip, exit, wait(1)
	for range 3999 {
		x, y, z = block(x), seq(y, skip), par(z, skip)
	}
	if term.Size(x) != 4000 || term.Norm(x).Kind != api.TSkip || !term.Same(x, copied(x)) || !right(x) {
		t.Error("P501: a deep block")
	}
	if term.Size(y) != 7999 || !term.Same(term.Norm(y), y) || !right(y) {
		t.Error("P501: a deep row")
	}
	if !same(term.Waits(z), []int{1}) || !term.Same(term.Norm(z), z) || !right(z) {
		t.Error("P501: deep, side by side")
	}
	x = skip
	for range 3999 {
		x = seq(skip, x)
	}
	if term.Norm(x).Kind != api.TSkip || !right(x) {
		t.Error("P502: a long row")
	}
}

func wild(r *rand.Rand, deep int) api.Term {
	t := api.Term{Kind: r.Intn(18) - 1, A: r.Intn(5) - 2, B: r.Intn(5) - 2, Name: []string{"", "a", "Q"}[r.Intn(3)]}
	if r.Intn(2) == 0 {
		t.E = api.Expr{Kind: r.Intn(19), N: r.Intn(3), L: make([]api.Expr, r.Intn(3))}
	}
	if deep > 0 {
		for range r.Intn(4) {
			t.L = append(t.L, wild(r, deep-1))
		}
	}
	return t
}

func TestP1AnyTerm(t *testing.T) {
	r := rand.New(rand.NewSource(18))
	for range 20000 {
		x, y := wild(r, 3), wild(r, 1)
		was := copied(x)
		term.Right(x, r.Intn(4)-1, r.Intn(4)-1, r.Intn(4)-1)
		term.Size(x)
		term.Same(x, y)
		spoil(term.Norm(x))
		term.Waits(x)
		if !same(x, was) {
			t.Fatalf("P2: %v is changed", was)
		}
	}
}

// spoil writes over all lists of t, and over their spare room.
func spoil(t api.Term) {
	for _, c := range t.L[:cap(t.L)] {
		spoil(c)
	}
	for i := range t.L[:cap(t.L)] {
		t.L[:cap(t.L)][i] = api.Term{Kind: 77}
	}
	for i := range t.E.L[:cap(t.E.L)] {
		t.E.L[:cap(t.E.L)][i] = api.Expr{Kind: 77}
	}
}

func TestP2NormIsNew(t *testing.T) {
	r := rand.New(rand.NewSource(19))
	for range 2000 {
		x := random(r, 4, true)
		x.L = append(make([]api.Term, 0, len(x.L)+2), x.L...)
		was, n := copied(x), term.Norm(x)
		kept := copied(n)
		spoil(n)
		if !same(x, was) {
			t.Fatalf("P2: Norm of %v shares memory with it", was)
		}
		n = term.Norm(x)
		spoil(x)
		if !same(n, kept) {
			t.Fatalf("P2: Norm of %v shares memory with it", was)
		}
	}
	e := api.Expr{Kind: api.ENot, L: []api.Expr{one}}
	x := term.Norm(seq(skip, set(0, e)))
	e.L[0] = api.Expr{}
	if !same(x, set(0, api.Expr{Kind: api.ENot, L: []api.Expr{one}})) {
		t.Error("P2: an expression is shared")
	}
}
