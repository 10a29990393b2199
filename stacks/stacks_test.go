package stacks_test

import (
	"fmt"
	"math/rand"
	"testing"

	"penance/api"
	"penance/stacks"
	"penance/term"
)

func do(n int) api.Term          { return api.Term{Kind: api.TDo, Name: "a", A: n} }
func block(t api.Term) api.Term  { return api.Term{Kind: api.TBlock, L: []api.Term{t}} }
func seq(a, b api.Term) api.Term { return api.Term{Kind: api.TSeq, L: []api.Term{a, b}} }

type list = [][]api.Term

// row makes a stack of actions.
func row(numbers ...int) (l []api.Term) {
	for _, n := range numbers {
		l = append(l, do(n))
	}
	return l
}

// same holds answers against each other: a nil list and an empty one are the same.
func same(a, b any) bool { return fmt.Sprintf("%+v", a) == fmt.Sprintf("%+v", b) }

func copied(s list) list {
	out := make(list, len(s))
	for i, l := range s {
		out[i] = copiedTerms(l)
	}
	return out
}

func copiedTerms(l []api.Term) (out []api.Term) {
	for _, t := range l {
		t.L = copiedTerms(t.L)
		t.E.L = append([]api.Expr(nil), t.E.L...)
		out = append(out, t)
	}
	return out
}

func TestP601Push(t *testing.T) {
	for i, x := range []struct {
		s    list
		at   int
		want list
	}{
		{list{nil}, 0, list{row(9)}}, {list{row(1)}, 0, list{row(1, 9)}}, {list{row(1, 2), row(3)}, 0, list{row(1, 2, 9), row(3)}}, {list{row(1, 2), row(3), nil}, 1, list{row(1, 2), row(3, 9), nil}}, {list{nil, nil, row(4)}, 1, list{nil, row(9), row(4)}},
	} {
		if got := stacks.Push(x.s, x.at, do(9)); !same(got, x.want) {
			t.Errorf("P601: %d: %v; want %v", i, got, x.want)
		}
	}
	if got := stacks.Push(list{row(1)}, 0, block(do(2))); !same(got, list{{do(1), block(do(2))}}) {
		t.Errorf("P601: %v", got)
	}
	if got := stacks.Push(list{nil}, 0, api.Term{}); !same(got, list{{api.Term{}}}) {
		t.Errorf("P601: skip is pushed as any other: %v", got)
	}
}

func TestP601Reverse(t *testing.T) {
	for i, x := range []struct {
		s    list
		at   int
		want api.Term
		left list
	}{
		{list{nil}, 0, api.Term{}, list{nil}}, {list{nil, row(1)}, 0, api.Term{}, list{nil, row(1)}}, {list{row(1)}, 0, do(1), list{nil}}, {list{row(1, 2)}, 0, seq(do(2), do(1)), list{nil}}, {list{row(5), row(1, 2, 3), row(6)}, 1, seq(do(3), seq(do(2), do(1))), list{row(5), nil, row(6)}}, {list{row(1), row(2)}, 1, do(2), list{row(1), nil}},
		{list{{seq(do(1), do(2)), block(do(3)), seq(do(4), do(5))}}, 0, seq(seq(do(4), do(5)), seq(block(do(3)), seq(do(1), do(2)))), list{nil}},
	} {
		if got, left := stacks.Reverse(x.s, x.at); !same(got, x.want) || !same(left, x.left) {
			t.Errorf("P601: %d: %v, %v; want %v, %v", i, got, left, x.want, x.left)
		}
	}
}

func TestP601Accept(t *testing.T) {
	for i, x := range []struct {
		s    list
		at   int
		want list
	}{
		{list{nil}, 0, list{nil}}, {list{row(1, 2)}, 0, list{nil}}, {list{row(1, 2), row(3)}, 0, list{nil, row(3)}}, {list{row(1, 2), row(3), row(4)}, 1, list{row(1, 2), nil, row(4)}}, {list{row(1), nil}, 1, list{row(1), nil}},
	} {
		if got := stacks.Accept(x.s, x.at); !same(got, x.want) {
			t.Errorf("P601: %d: %v; want %v", i, got, x.want)
		}
	}
}

func TestP601Merge(t *testing.T) {
	for i, x := range []struct {
		s        list
		from, to int
		want     list
	}{
		{list{nil, nil}, 0, 1, list{nil, nil}}, {list{row(1, 2), row(3, 4)}, 0, 1, list{nil, row(3, 4, 1, 2)}}, {list{row(1, 2), row(3, 4)}, 1, 0, list{row(1, 2, 3, 4), nil}}, {list{row(1, 2), row(3, 4)}, 1, 1, list{row(1, 2), row(3, 4)}}, {list{row(1, 2)}, 0, 0, list{row(1, 2)}},
		{list{row(1, 2), nil, row(5)}, 0, 1, list{nil, row(1, 2), row(5)}}, {list{nil, row(3), row(5)}, 0, 1, list{nil, row(3), row(5)}}, {list{row(1), row(2), row(3)}, 2, 0, list{row(1, 3), row(2), nil}},
	} {
		if got := stacks.Merge(x.s, x.from, x.to); !same(got, x.want) {
			t.Errorf("P601: %d: %v; want %v", i, got, x.want)
		}
	}
}

func TestP601Size(t *testing.T) {
	for i, x := range []struct {
		s    list
		want int
	}{
		{nil, 0}, {list{}, 0}, {list{nil, nil}, 0}, {list{row(1)}, 1}, {list{row(1, 2), row(3)}, 3}, {list{{block(seq(do(1), do(2)))}, nil, {do(3), block(do(4))}}, 7},
	} {
		if got := stacks.Size(x.s); got != x.want {
			t.Errorf("P601: %d: %d; want %d", i, got, x.want)
		}
	}
}

func random(r *rand.Rand) list {
	s := make(list, 1+r.Intn(4))
	for i := range s {
		for range r.Intn(4) {
			t := do(r.Intn(100))
			if r.Intn(3) == 0 {
				t = block(t)
			}
			if r.Intn(3) == 0 {
				t = api.Term{Kind: api.TSet, E: api.Expr{Kind: api.ENeg, L: []api.Expr{{Kind: api.ENum, N: 1}}}}
			}
			s[i] = append(s[i], t)
		}
		// Spare room, which is not ours either.
		s[i] = append(make([]api.Term, 0, len(s[i])+2), s[i]...)
	}
	return s
}

// spare tells all there is, spare room with it.
func spare(s list) string {
	out := ""
	for _, l := range s {
		out += fmt.Sprintf("%+v", l[:cap(l)])
	}
	return out
}

// What is told shares nothing with what is handed in, and changes nothing of it.
func TestP2(t *testing.T) {
	r := rand.New(rand.NewSource(20))
	for range 4000 {
		s, at, to := random(r), 0, 0
		at, to = r.Intn(len(s)), r.Intn(len(s))
		x := block(api.Term{Kind: api.TSet, E: api.Expr{Kind: api.ENeg, L: []api.Expr{{}}}})
		was := spare(s)
		for i, call := range []func() (api.Term, list){
			func() (api.Term, list) { return api.Term{}, stacks.Push(s, at, x) },
			func() (api.Term, list) { return stacks.Reverse(s, at) },
			func() (api.Term, list) { return api.Term{}, stacks.Accept(s, at) },
			func() (api.Term, list) { return api.Term{}, stacks.Merge(s, at, to) },
		} {
			t1, got := call()
			kept, keptTerm := fmt.Sprint(got), fmt.Sprint(t1)
			if spare(s) != was {
				t.Fatalf("P2: call %d changes what is handed in", i)
			}
			got2 := copied(got)
			spoil(got)
			spoilTerms(t1.L)
			if spare(s) != was || fmt.Sprint(x) != fmt.Sprint(block(api.Term{Kind: api.TSet, E: api.Expr{Kind: api.ENeg, L: []api.Expr{{}}}})) {
				t.Fatalf("P2: call %d shares memory with what is handed in", i)
			}
			if t2, again := call(); fmt.Sprint(again) != kept || fmt.Sprint(t2) != keptTerm || !same(again, got2) {
				t.Fatalf("P3: call %d tells something else: %v; first %v", i, again, kept)
			}
		}
	}
}

func spoil(s list) {
	for i := range s[:cap(s)] {
		spoilTerms(s[:cap(s)][i])
		s[:cap(s)][i] = nil
	}
}

func spoilTerms(l []api.Term) {
	l = l[:cap(l)]
	for i := range l {
		spoilTerms(l[i].L)
		for j := range l[i].E.L {
			l[i].E.L[j] = api.Expr{Kind: 77}
		}
		l[i] = api.Term{Kind: 77}
	}
}

func TestP601Random(t *testing.T) {
	r := rand.New(rand.NewSource(21))
	for range 4000 {
		s := random(r)
		at, to := r.Intn(len(s)), r.Intn(len(s))
		n := stacks.Size(s)
		if got := stacks.Push(s, at, block(do(1))); stacks.Size(got) != n+2 || !same(got[at][:len(s[at])], s[at]) {
			t.Fatalf("P601: Push on %v: %v", s, got)
		}
		if got := stacks.Merge(s, at, to); stacks.Size(got) != n || len(got) != len(s) || at != to && (len(got[at]) != 0 || !same(got[to], append(copied(s)[to], s[at]...))) {
			t.Fatalf("P601: Merge of %v: %v", s, got)
		}
		back, left := stacks.Reverse(s, at)
		if !same(left, stacks.Accept(s, at)) || len(left[at]) != 0 {
			t.Fatalf("P601: Reverse of %v leaves %v", s, left)
		}
		// What is told is all that was there, last first.
		for i := len(s[at]) - 1; i > 0; i-- {
			if !term.Same(back.L[0], s[at][i]) {
				t.Fatalf("P601: Reverse of %v: %v", s, back)
			}
			back = back.L[1]
		}
		if len(s[at]) > 0 && !term.Same(back, s[at][0]) {
			t.Fatalf("P601: Reverse of %v ends with %v", s, back)
		}
	}
}

// Where no stack has that number: no panic, and nothing is changed.
func TestP1NoSuchStack(t *testing.T) {
	for _, s := range []list{nil, {}, {nil}, {row(1), row(2)}} {
		for _, at := range []int{-1, 2, 3, 1 << 62, -1 << 63} {
			was := fmt.Sprint(s)
			_, reversed := stacks.Reverse(s, at)
			for _, got := range []list{stacks.Push(s, at, do(1)), reversed, stacks.Accept(s, at), stacks.Merge(s, at, 0), stacks.Merge(s, 0, at), stacks.Merge(s, at, at)} {
				spoil(got)
			}
			if fmt.Sprint(s) != was {
				t.Fatalf("P2: %v is changed", was)
			}
		}
	}
}
