package check_test

import (
	"fmt"
	"math/rand"
	"strings"
	"testing"

	"penance/api"
	"penance/check"
	"penance/text"
)

func parse(t *testing.T, s string) api.Program {
	t.Helper()
	p, at, e := text.Parse(s)
	if e != api.OK {
		t.Fatalf("no program: %s: %d, %v", s, at, e)
	}
	return p
}

// same holds answers against each other: a nil list and an empty one are the same.
func same(a, b any) bool { return fmt.Sprintf("%+v", a) == fmt.Sprintf("%+v", b) }

// many writes n declarations: %d stands for the number.
func many(n int, s string) string {
	var b strings.Builder
	for i := range n {
		b.WriteString(strings.ReplaceAll(s, "%d", fmt.Sprint(i)) + "\n")
	}
	return b.String()
}

func TestP401ByNumbers(t *testing.T) {
	skip := api.Term{}
	v := func(n int) api.Expr { return api.Expr{Kind: api.EVar, N: n} }
	num := func(n int) api.Expr { return api.Expr{Kind: api.ENum, N: n} }
	head := "var x 5 stack s var y -6 stack r proc q { skip } var z 0 stack u "
	for body, want := range map[string]api.Term{
		"skip":                        skip,
		"exit":                        {Kind: api.TExit},
		"do a":                        {Kind: api.TDo, Name: "a", A: -1},
		"do x":                        {Kind: api.TDo, Name: "x", A: -1},
		"do a -> x":                   {Kind: api.TDo, Name: "a", A: 0},
		"do a -> z":                   {Kind: api.TDo, Name: "a", A: 2},
		"y := 7":                      {Kind: api.TSet, A: 1, E: num(7)},
		"z := x - -y":                 {Kind: api.TSet, A: 2, E: api.Expr{Kind: api.ESub, L: []api.Expr{v(0), {Kind: api.ENeg, L: []api.Expr{v(1)}}}}},
		"push r { do a }":             {Kind: api.TPush, A: 1, L: []api.Term{{Kind: api.TDo, Name: "a", A: -1}}},
		"reverse u":                   {Kind: api.TReverse, A: 2},
		"accept r":                    {Kind: api.TAccept, A: 1},
		"merge u r":                   {Kind: api.TMerge, A: 2, B: 1},
		"merge s u":                   {Kind: api.TMerge, A: 0, B: 2},
		"merge r r":                   {Kind: api.TMerge, A: 1, B: 1},
		"block { exit }":              {Kind: api.TBlock, L: []api.Term{{Kind: api.TExit}}},
		"if y { skip } else { exit }": {Kind: api.TIf, E: v(1), L: []api.Term{skip, {Kind: api.TExit}}},
		"choose { exit } { skip }":    {Kind: api.TChoose, L: []api.Term{{Kind: api.TExit}, skip}},
		"par { do b } { skip }":       {Kind: api.TPar, L: []api.Term{{Kind: api.TDo, Name: "b", A: -1}, skip}},
		"call q":                      {Kind: api.TCall, A: 0},
		"call p":                      {Kind: api.TCall, A: 2},
		"do b; exit":                  {Kind: api.TSeq, L: []api.Term{{Kind: api.TDo, Name: "b", A: -1}, {Kind: api.TExit}}},
	} {
		p := parse(t, head+"proc main { skip } proc p { "+body+" }")
		c, e := check.Lower(p)
		wanted := api.Core{Vars: []int{5, -6, 0}, Stacks: 3, Procs: []api.Term{skip, skip, want}, Main: 1}
		if body == "call p" {
			if e != api.Unguarded || !same(c, api.Core{}) {
				t.Errorf("P401: %s: %v, %v", body, c, e)
			}
			continue
		}
		if e != api.OK || !same(c, wanted) {
			t.Errorf("P401: %s: %v, %v; want %v", body, c, e, wanted)
		}
	}
}

func TestP401Errors(t *testing.T) {
	main := "proc main { skip }"
	for _, x := range []struct {
		s string
		e api.Errno
	}{
		{"", api.NoMain},
		{"var x 1 stack s", api.NoMain},
		{"proc mains { skip }", api.NoMain},
		{main, api.OK},
		{"var main 1 stack main " + main, api.OK},
		{"var a 1 stack a proc a { skip } " + main, api.OK},
		{main + many(20, "var x%d 0"), api.OK},
		{main + many(21, "var x%d 0"), api.Limit},
		{main + many(10, "stack x%d"), api.OK},
		{main + many(11, "stack x%d"), api.Limit},
		{main + many(19, "proc x%d {skip}"), api.OK},
		{main + many(20, "proc x%d {skip}"), api.Limit},
		{many(21, "var x 0"), api.Limit},
		{many(21, "proc x {call y}"), api.Limit},
		{main + "var x 1 var x 1", api.Twice},
		{main + "stack x stack y stack x", api.Twice},
		{main + "proc x { skip } proc x { skip }", api.Twice},
		{main + main, api.Twice},
		{"var x 1 var x 2 proc q { call r }", api.Twice},
		{"proc q { call r }", api.Unknown},
		{"proc q { call q }", api.NoMain},
		{main + "proc q { do a -> x }", api.Unknown},
		{main + "proc q { do a }", api.OK},
		{main + "proc q { x := 1 }", api.Unknown},
		{main + "var x 1 proc q { x := y }", api.Unknown},
		{main + "var x 1 proc q { x := 1 + (x * !y) }", api.Unknown},
		{main + "var x 1 proc q { if 0 && y { skip } else { skip } }", api.Unknown},
		{main + "var x 1 proc q { if x { x := 2 } else { z := 1 } }", api.Unknown},
		{main + "var x 1 proc q { if x { z := 2 } else { x := 1 } }", api.Unknown},
		{main + "var s 1 proc q { push s { skip } }", api.Unknown},
		{main + "stack s proc q { push s { push r { skip } } }", api.Unknown},
		{main + "stack s proc q { s := 1 }", api.Unknown},
		{main + "stack s proc q { do a -> s }", api.Unknown},
		{main + "stack s proc q { reverse r }", api.Unknown},
		{main + "stack s proc q { accept q }", api.Unknown},
		{main + "stack s proc q { merge s r }", api.Unknown},
		{main + "stack s proc q { merge r s }", api.Unknown},
		{main + "stack s proc q { merge s s }", api.OK},
		{main + "stack s proc q { call s }", api.Unknown},
		{main + "proc q { block { choose { skip } { par { skip } { skip; { call r } } } } }", api.Unknown},
		{main + "proc q { call main }", api.OK},
		{main + "stack r proc q { reverse r } ", api.OK},
	} {
		c, e := check.Lower(parse(t, x.s))
		if e != x.e || e != api.OK && !same(c, api.Core{}) {
			t.Errorf("P401: %s: %v, %v; want %v", x.s, c, e, x.e)
		}
	}
}

func TestP401Unguarded(t *testing.T) {
	for s, e := range map[string]api.Errno{
		"proc main { call main }":                                                                             api.Unguarded,
		"proc main { do a; call main }":                                                                       api.OK,
		"proc main { skip; call main }":                                                                       api.Unguarded,
		"proc main { exit; call main }":                                                                       api.OK,
		"proc main { block { exit }; call main }":                                                             api.Unguarded,
		"proc main { block { do a; exit }; call main }":                                                       api.OK,
		"proc main { reverse s; call main }":                                                                  api.Unguarded,
		"proc main { push s { call main } }":                                                                  api.Unguarded,
		"proc main { push s { do a; call main } }":                                                            api.OK,
		"proc main { do a; push s { call main } }":                                                            api.OK,
		"proc main { block { call main } }":                                                                   api.Unguarded,
		"proc main { if x { do a } else { call main } }":                                                      api.Unguarded,
		"proc main { if x { call main } else { do a } }":                                                      api.Unguarded,
		"proc main { if x { do a } else { do b }; call main }":                                                api.OK,
		"proc main { if x { do a } else { skip }; call main }":                                                api.Unguarded,
		"proc main { choose { do a } { x := 1 }; call main }":                                                 api.Unguarded,
		"proc main { choose { do a } { exit }; call main }":                                                   api.OK,
		"proc main { par { do a } { call main } }":                                                            api.Unguarded,
		"proc main { par { do a } { skip }; call main }":                                                      api.OK,
		"proc main { par { accept s } { merge s s }; call main }":                                             api.Unguarded,
		"proc main { par { exit } { skip }; call main }":                                                      api.OK,
		"proc main { block { par { exit } { do a } }; call main }":                                            api.Unguarded,
		"proc main { call q } proc q { call main }":                                                           api.Unguarded,
		"proc main { call q } proc q { call q }":                                                              api.Unguarded,
		"proc main { skip } proc q { call q }":                                                                api.Unguarded,
		"proc main { call q } proc q { do a; call main }":                                                     api.OK,
		"proc main { call q; call main } proc q { do a }":                                                     api.OK,
		"proc main { call q; call main } proc q { skip }":                                                     api.Unguarded,
		"proc main { call q; call main } proc q { if x { do a } else { call r } } proc r { push s { do a } }": api.Unguarded,
		"proc main { call q; call main } proc q { do a; call q }":                                             api.OK,
		"proc main { call q } proc q { call r } proc r { call q }":                                            api.Unguarded,
		"proc main { call q } proc q { call r } proc r { call t } proc t { call main }":                       api.Unguarded,
		"proc main { call q; call q } proc q { call r; call r } proc r { skip }":                              api.OK,
		"proc main { { do a; skip }; call main }":                                                             api.OK,
		"proc main { skip; { do a; skip }; call main }":                                                       api.OK,
		"proc main { skip; { call main; do a } }":                                                             api.Unguarded,
	} {
		if c, got := check.Lower(parse(t, "var x 0 stack s "+s)); got != e || e != api.OK && !same(c, api.Core{}) {
			t.Errorf("P401: %s: %v, %v; want %v", s, c, got, e)
		}
	}
}

func TestP402Bare(t *testing.T) {
	for body, want := range map[string]bool{
		"skip": true, "x := 1 / 0": true, "push s { do a }": true, "accept s": true, "merge s s": true, "reverse s": true,
		"do a": false, "do a -> x": false, "exit": false,
		"block { skip }": true, "block { exit }": true, "block { do a }": false, "block { do a; exit }": false, "block { reverse s }": true,
		"if x { skip } else { do a }": true, "if x { do a } else { skip }": true, "if x { do a } else { exit }": false, "if 1 { do a } else { skip }": true,
		"choose { skip } { do a }": true, "choose { do a } { skip }": true, "choose { exit } { exit }": false,
		"par { skip } { skip }": true, "par { skip } { do a }": false, "par { do a } { skip }": false, "par { skip } { exit }": false, "par { exit } { skip }": false,
		"skip; skip": true, "skip; do a": false, "do a; skip": false, "skip; exit": false, "exit; skip": false, "reverse s; reverse s": true,
		"block { skip; exit }": true, "block { exit; do a }": true, "block { do a; skip }": false, "block { par { exit } { do a } }": true, "block { par { do a } { do b } }": false, "block { par { do a } { skip } }": false,
		"block { choose { do a } { exit } }": true, "block { reverse s; do a }": true, "block { block { exit }; do a }": false, "block { block { exit }; exit }": true,
		"call e": true, "call d": false, "call x": false, "block { call x }": true, "call b": true, "call l": false, "block { call l }": false,
		"call e; call e": true, "call e; call d": false, "call k": true,
	} {
		p := parse(t, "var x 0 stack s proc e { skip } proc d { do a } proc x { exit } proc b { block { call x } } proc l { call m } proc m { call l } proc k { choose { call k; do a } { call e } } proc p { "+body+" }")
		if got := check.Bare(p, "p"); got != want {
			t.Errorf("P402: %s: %v", body, got)
		}
		if !check.Bare(p, "e") || check.Bare(p, "none") || check.Bare(p, "") || check.Bare(p, "s") {
			t.Errorf("P402: beside %s", body)
		}
	}
	// What calls itself may end only by what else it may do.
	p := parse(t, "proc a { call a } proc b { choose { call b } { skip } } proc c { call c; skip } proc d { choose { call d; skip } { block { call e } } } proc e { choose { call d } { exit } }")
	for name, want := range map[string]bool{"a": false, "b": true, "c": false, "d": true, "e": true} {
		if check.Bare(p, name) != want {
			t.Errorf("P402: %s is not %v", name, want)
		}
	}
}

func TestP402Front(t *testing.T) {
	for body, want := range map[string]string{
		"skip": "", "do a": "", "reverse s": "", "exit": "",
		"call e": "e", "call p": "p", "call e; call d": "e d", "call d; call e": "d", "call x; call e": "x", "call b; call e": "e b",
		"call d; call d": "d", "call e; call e": "e", "skip; call e": "e", "do a; call e": "", "exit; call e": "", "reverse s; call e": "e",
		"push s { call d }": "d", "push s { do a; call d }": "", "push s { do a }; call d": "d", "push s { call x }; call d": "d x",
		"block { call x }; call e": "e x", "block { call d }; call e": "d", "block { exit; call d }; call e": "e", "block { call e; exit }; call d": "e d",
		"if x { call x } else { call d }": "d x", "if x { do a; call x } else { call d }; call e": "d", "if x { skip } else { call d }; call e": "e d",
		"choose { call x } { call d }; call e": "d x", "choose { call x } { skip }; call e": "e x",
		"par { call x } { call d }; call e": "d x", "par { call e } { do a; call d }": "e", "par { call e } { skip }; call d": "e d", "par { call x } { call e }; call d": "e x",
		"{ skip; call e }; call d": "e d", "{ do a; call e }; call d": "", "{ call e; do a }; call d": "e",
		"call q": "q", "call q; call e": "q",
	} {
		p := parse(t, "var x 0 stack s proc e { skip } proc d { do a } proc x { exit } proc b { block { call x } } proc p { "+body+" } proc q { call d; call e }")
		if got := strings.Join(check.Front(p, "p"), " "); got != want {
			t.Errorf("P402: %s: %q; want %q", body, got, want)
		}
		if len(check.Front(p, "none")) != 0 || len(check.Front(p, "s")) != 0 || strings.Join(check.Front(p, "q"), " ") != "d" || strings.Join(check.Front(p, "b"), " ") != "x" {
			t.Errorf("P402: beside %s", body)
		}
	}
}

func TestP403Compile(t *testing.T) {
	for _, x := range []struct {
		s  string
		at int
		e  api.Errno
	}{
		{"proc main { skip }", 0, 0},
		{"", 0, api.NoMain},
		{"proc main { x := 1 }", 0, api.Unknown},
		{"var x 1 var x 1 proc main { skip", 32, api.BadText},
		{"proc main { skip } ?", 19, api.BadSign},
		{"  proc " + strings.Repeat("a", 21), 7, api.Limit},
		{"proc main " + strings.Repeat("{", 21), 30, api.Limit},
		{" proc main { call main }", 0, api.Unguarded},
		{" var x 1 var x 1 proc main { skip }", 0, api.Twice},
		{many(21, "var x%d 0"), 0, api.Limit},
	} {
		c, at, e := check.Compile(x.s)
		if e != x.e || at != x.at || e != api.OK && !same(c, api.Core{}) {
			t.Errorf("P403: %s: %v, %d, %v; want %d, %v", x.s, c, at, e, x.at, x.e)
		}
	}
	s := "var x 3 stack s proc q { do a -> x } proc main { push s { call q }; reverse s }"
	c, _, _ := check.Compile(s)
	d, _ := check.Lower(parse(t, s))
	if !same(c, d) || c.Main != 1 || len(c.Procs) != 2 {
		t.Errorf("P403: %v; Lower: %v", c, d)
	}
}

// randomBody makes a process that calls a, b, c, main.
func randomBody(r *rand.Rand, deep int) string {
	in := func() string { return "{ " + randomBody(r, deep-1) + " }" }
	call := func() string { return "call " + []string{"a", "b", "c", "main"}[r.Intn(4)] }
	if deep == 0 {
		return []string{"skip", "do x", "do y -> v", "exit", "v := v + 1", "reverse s", "accept s", "merge s t", "merge t s", "reverse t", call(), call(), call()}[r.Intn(13)]
	}
	switch r.Intn(8) {
	case 0:
		return "push s " + in()
	case 1:
		return "block " + in()
	case 2:
		return "if v < 3 " + in() + " else " + in()
	case 3:
		return "choose " + in() + in()
	case 4:
		return "par " + in() + in()
	case 5:
		return "push t " + in() + "; " + in()
	}
	return in() + "; " + in()
}

func randomProgram(r *rand.Rand) string {
	s := "var v 0 stack s stack t "
	for _, n := range []string{"a", "b", "c", "main"} {
		s += "proc " + n + " { " + randomBody(r, 1+r.Intn(3)) + " } "
	}
	return s
}

// may is P402 by unfolding calls so many times.
func may(p api.Program, q api.Proc, calls int) (end, exit bool) {
	switch q.Kind {
	case api.TDo:
		return false, false
	case api.TExit:
		return false, true
	case api.TReverse:
		return true, true
	case api.TCall:
		for _, d := range p.Procs {
			if d.Name == q.Name && calls > 0 {
				return may(p, d.Body, calls-1)
			}
		}
		return false, false
	case api.TBlock:
		end, exit = may(p, q.L[0], calls)
		return end || exit, false
	case api.TIf, api.TChoose, api.TPar, api.TSeq:
		end1, exit1 := may(p, q.L[0], calls)
		end2, exit2 := may(p, q.L[1], calls)
		switch q.Kind {
		case api.TPar:
			return end1 && end2, exit1 || exit2
		case api.TSeq:
			return end1 && end2, exit1 || end1 && exit2
		}
		return end1 || end2, exit1 || exit2
	}
	return true, false
}

func front(p api.Program, q api.Proc, out map[string]bool) {
	if q.Kind == api.TCall {
		out[q.Name] = true
	}
	for i, child := range q.L {
		if end, _ := may(p, q.L[0], 6); q.Kind == api.TSeq && i == 1 && !end {
			return
		}
		front(p, child, out)
	}
}

func TestP402Random(t *testing.T) {
	r := rand.New(rand.NewSource(12))
	guarded := 0
	for range 1500 {
		s := randomProgram(r)
		p := parse(t, s)
		next := map[string][]string{}
		for _, d := range p.Procs {
			want, _ := may(p, d.Body, 6)
			if check.Bare(p, d.Name) != want {
				t.Fatalf("P402: Bare of %s is not %v: %s", d.Name, want, s)
			}
			out, l := map[string]bool{}, []string(nil)
			front(p, d.Body, out)
			for _, o := range p.Procs {
				if out[o.Name] {
					l = append(l, o.Name)
				}
			}
			next[d.Name] = l
			if got := check.Front(p, d.Name); strings.Join(got, " ") != strings.Join(l, " ") {
				t.Fatalf("P402: Front of %s: %v; want %v: %s", d.Name, got, l, s)
			}
		}
		want := api.OK
		for _, d := range p.Procs {
			met := append([]string(nil), next[d.Name]...)
			for i := 0; i < len(met) && i < 100; i++ {
				met = append(met, next[met[i]]...)
				if met[i] == d.Name {
					want = api.Unguarded
				}
			}
		}
		if _, e := check.Lower(p); e != want {
			t.Fatalf("P401: %v; want %v: %s", e, want, s)
		}
		if want == api.OK {
			guarded++
		}
	}
	if guarded < 50 {
		t.Errorf("only %d programs are guarded", guarded)
	}
}

// walk does steps of a process till it only waits for actions; it counts them.
type walk struct {
	c      api.Core
	r      *rand.Rand
	stacks [][]api.Term
	steps  int
	moved  bool
}

// step does one step within t, if there is one that is no action; out: t is left by exit.
func (w *walk) step(t api.Term) (u api.Term, out bool) {
	switch t.Kind {
	case api.TSkip, api.TDo:
		return t, false
	case api.TSeq:
		first, out := w.step(t.L[0])
		if first.Kind == api.TSkip && !out {
			return t.L[1], false
		}
		return api.Term{Kind: api.TSeq, L: []api.Term{first, t.L[1]}}, out
	case api.TPar:
		l := []api.Term{t.L[0], t.L[1]}
		for _, i := range w.r.Perm(2) {
			if l[i], out = w.step(l[i]); w.moved {
				break
			}
		}
		if l[0].Kind == api.TSkip && l[1].Kind == api.TSkip {
			return api.Term{}, out
		}
		return api.Term{Kind: api.TPar, L: l}, out
	case api.TBlock:
		in, out := w.step(t.L[0])
		if out || in.Kind == api.TSkip {
			return api.Term{}, false
		}
		return api.Term{Kind: api.TBlock, L: []api.Term{in}}, false
	}
	w.moved = true
	w.steps++
	switch t.Kind {
	case api.TExit:
		return api.Term{}, true
	case api.TIf, api.TChoose:
		return t.L[w.r.Intn(2)], false
	case api.TCall:
		return w.c.Procs[t.A], false
	case api.TPush:
		w.stacks[t.A] = append(w.stacks[t.A], t.L[0])
	case api.TAccept:
		w.stacks[t.A] = nil
	case api.TMerge:
		if t.A != t.B {
			w.stacks[t.B] = append(w.stacks[t.B], w.stacks[t.A]...)
			w.stacks[t.A] = nil
		}
	case api.TReverse:
		for _, one := range w.stacks[t.A] {
			u = api.Term{Kind: api.TSeq, L: []api.Term{one, u}}
		}
		w.stacks[t.A] = nil
	}
	return u, false
}

// At each place in between one action is taken for told; till the next one only so many steps come.
func TestP404OnlySoManySteps(t *testing.T) {
	r := rand.New(rand.NewSource(13))
	ran, most := 0, 0
	for range 3000 {
		c, _, e := check.Compile(randomProgram(r))
		if e != api.OK {
			continue
		}
		ran++
		w := &walk{c: c, r: r, stacks: make([][]api.Term, c.Stacks)}
		left := c.Procs[c.Main]
		for range 10 {
			w.steps = 0
			for {
				w.moved = false
				was := size(left)
				for _, s := range w.stacks {
					for _, one := range s {
						was += size(one)
					}
				}
				if was > api.MaxSize {
					break
				}
				var out bool
				if left, out = w.step(left); out {
					left = api.Term{}
				}
				if !w.moved && size(left) == 1 || !w.moved && settled(left) {
					break
				}
				if w.steps > 100000 {
					t.Fatalf("P404: it goes on and on: %v", c)
				}
			}
			most = max(most, w.steps)
			left = tell(left)
		}
	}
	if ran < 50 || most < 10 {
		t.Errorf("only %d programs ran, %d steps at most", ran, most)
	}
}

func size(t api.Term) int {
	n := 1
	for _, l := range t.L {
		n += size(l)
	}
	return n
}

// settled tells whether nothing but actions is next.
func settled(t api.Term) bool {
	switch t.Kind {
	case api.TDo:
		return true
	case api.TSeq, api.TBlock:
		return settled(t.L[0])
	case api.TPar:
		return (settled(t.L[0]) || t.L[0].Kind == api.TSkip) && (settled(t.L[1]) || t.L[1].Kind == api.TSkip)
	}
	return false
}

// tell takes the first action for told.
func tell(t api.Term) api.Term {
	switch t.Kind {
	case api.TDo:
		return api.Term{}
	case api.TSeq, api.TBlock, api.TPar:
		l := append([]api.Term(nil), t.L...)
		i := 0
		if t.Kind == api.TPar && l[0].Kind == api.TSkip {
			i = 1
		}
		l[i] = tell(l[i])
		return api.Term{Kind: t.Kind, L: l}
	}
	return t
}

func wildProc(r *rand.Rand, deep int) api.Proc {
	n := []string{"", "a", "b", "s", "main", "Z"}
	p := api.Proc{Kind: r.Intn(17) - 1, Name: n[r.Intn(6)], To: n[r.Intn(6)]}
	p.E = api.Expr{Kind: r.Intn(19), Name: n[r.Intn(6)], L: make([]api.Expr, r.Intn(3))}
	if deep > 0 {
		for range r.Intn(4) {
			p.L = append(p.L, wildProc(r, deep-1))
		}
	}
	return p
}

func copied(p api.Proc) api.Proc {
	q := p
	q.L, q.E.L = nil, append([]api.Expr(nil), p.E.L...)
	for _, c := range p.L {
		q.L = append(q.L, copied(c))
	}
	return q
}

func TestP1AnyProgram(t *testing.T) {
	r := rand.New(rand.NewSource(14))
	for range 20000 {
		p := api.Program{Vars: []api.Var{{Name: "a"}, {Name: "b", Value: 4}}[:r.Intn(3)], Stacks: []string{"s", "s"}[:r.Intn(3)]}
		was := p
		for range r.Intn(4) {
			d := api.Def{Name: []string{"a", "b", "main", ""}[r.Intn(4)], Body: wildProc(r, 2)}
			p.Procs = append(p.Procs, d)
			was.Procs = append(was.Procs, api.Def{Name: d.Name, Body: copied(d.Body)})
		}
		check.Lower(p)
		check.Bare(p, "a")
		check.Front(p, "a")
		if fmt.Sprint(p) != fmt.Sprint(was) {
			t.Fatalf("P2: %v is changed", was)
		}
	}
}

func TestP2AnswersAreNew(t *testing.T) {
	p := parse(t, "var x 3 stack s proc main { push s { x := x + 1 }; call q } proc q { skip }")
	c, _ := check.Lower(p)
	d, _ := check.Lower(p)
	c.Vars[0] = 9
	c.Procs[0].L[0].L[0].E.L[0] = api.Expr{}
	c.Procs[0].L[1] = api.Term{}
	c.Procs[1] = api.Term{Kind: 9}
	if e, _ := check.Lower(p); !same(d, e) || d.Vars[0] != 3 {
		t.Error("P2: two answers share memory")
	}
	l := check.Front(p, "main")
	l[0] = "z"
	if check.Front(p, "main")[0] != "q" {
		t.Error("P2: two answers share memory")
	}
}
