package text_test

import (
	"math"
	"math/rand"
	"strconv"
	"strings"
	"testing"

	"penance/api"
	"penance/expr"
	"penance/lex"
	"penance/text"
)

var skip, exit = api.Proc{Kind: api.TSkip}, api.Proc{Kind: api.TExit}

func do(name string) api.Proc               { return api.Proc{Kind: api.TDo, Name: name} }
func node(kind int, l ...api.Proc) api.Proc { return api.Proc{Kind: kind, L: l} }
func named(kind int, n string) api.Proc     { return api.Proc{Kind: kind, Name: n} }
func set(to string, e api.Expr) api.Proc    { return api.Proc{Kind: api.TSet, To: to, E: e} }
func push(s string, p api.Proc) api.Proc    { return api.Proc{Kind: api.TPush, Name: s, L: []api.Proc{p}} }
func branch(e api.Expr, a, b api.Proc) api.Proc {
	return api.Proc{Kind: api.TIf, E: e, L: []api.Proc{a, b}}
}
func seq(a, b api.Proc) api.Proc            { return node(api.TSeq, a, b) }
func num(n int) api.Expr                    { return api.Expr{Kind: api.ENum, N: n} }
func name(s string) api.Expr                { return api.Expr{Kind: api.EVar, Name: s} }
func pair(kind int, l ...api.Expr) api.Expr { return api.Expr{Kind: kind, L: l} }
func def(n string, p api.Proc) api.Def      { return api.Def{Name: n, Body: p} }
func program(p api.Proc) api.Program        { return api.Program{Procs: []api.Def{def("p", p)}} }
func procOf(s string) string                { return "proc p { " + s + " }" }

func sameExpr(a, b api.Expr) bool {
	if a.Kind != b.Kind || a.N != b.N || a.Name != b.Name || len(a.L) != len(b.L) {
		return false
	}
	for i := range a.L {
		if !sameExpr(a.L[i], b.L[i]) {
			return false
		}
	}
	return true
}

func sameProc(a, b api.Proc) bool {
	if a.Kind != b.Kind || a.Name != b.Name || a.To != b.To || !sameExpr(a.E, b.E) || len(a.L) != len(b.L) {
		return false
	}
	for i := range a.L {
		if !sameProc(a.L[i], b.L[i]) {
			return false
		}
	}
	return true
}

func same(a, b api.Program) bool {
	if len(a.Vars) != len(b.Vars) || len(a.Stacks) != len(b.Stacks) || len(a.Procs) != len(b.Procs) {
		return false
	}
	for i := range a.Vars {
		if a.Vars[i] != b.Vars[i] {
			return false
		}
	}
	for i := range a.Stacks {
		if a.Stacks[i] != b.Stacks[i] {
			return false
		}
	}
	for i := range a.Procs {
		if a.Procs[i].Name != b.Procs[i].Name || !sameProc(a.Procs[i].Body, b.Procs[i].Body) {
			return false
		}
	}
	return true
}

// bodies: a process as it is written, ways to write it, and what it is.
var bodies = []struct {
	text string
	also []string
	p    api.Proc
}{
	{"skip", []string{"{skip}", "{{skip}}"}, skip},
	{"exit", nil, exit},
	{"do a", nil, do("a")},
	{"do a -> x", []string{"do a->x"}, api.Proc{Kind: api.TDo, Name: "a", To: "x"}},
	{"x := 1", []string{"x:=1", "x := (1)"}, set("x", num(1))},
	{"x := -1", []string{"x:=-1"}, set("x", pair(api.ENeg, num(1)))},
	{"x := (y + 1) * 2", []string{"x:=(y+1)*2"}, set("x", pair(api.EMul, pair(api.EAdd, name("y"), num(1)), num(2)))},
	{"push s { do a }", []string{"push s{do a}", "push s {{ do a }}"}, push("s", do("a"))},
	{"push s { do a; do b }", nil, push("s", seq(do("a"), do("b")))},
	{"reverse s", nil, named(api.TReverse, "s")},
	{"accept s", nil, named(api.TAccept, "s")},
	{"merge s t", nil, api.Proc{Kind: api.TMerge, Name: "s", To: "t"}},
	{"merge s s", nil, api.Proc{Kind: api.TMerge, Name: "s", To: "s"}},
	{"block { exit }", []string{"block{exit}"}, node(api.TBlock, exit)},
	{"block { do a; exit }", nil, node(api.TBlock, seq(do("a"), exit))},
	{"if x { skip } else { exit }", []string{"if x{skip}else{exit}", "if (x) {skip} else {exit}"}, branch(name("x"), skip, exit)},
	{"if x == 1 { do a; do b } else { skip }", nil, branch(pair(api.EEq, name("x"), num(1)), seq(do("a"), do("b")), skip)},
	{"if (x == y) == 0 { skip } else { skip }", nil, branch(pair(api.EEq, pair(api.EEq, name("x"), name("y")), num(0)), skip, skip)},
	{"choose { do a } { do b }", []string{"choose{do a}{do b}"}, node(api.TChoose, do("a"), do("b"))},
	{"par { do a } { do b; do c }", []string{"par{do a}{{do b};do c}"}, node(api.TPar, do("a"), seq(do("b"), do("c")))},
	{"call q", nil, named(api.TCall, "q")},
	{"do a; do b", []string{"do a;do b", "{do a;do b}", "{do a};{do b}"}, seq(do("a"), do("b"))},
	{"do a; do b; do c", []string{"do a; {do b; do c}", "{do a}; {do b; {do c}}"}, seq(do("a"), seq(do("b"), do("c")))},
	{"{ do a; do b }; do c", []string{"{{do a; do b}}; do c"}, seq(seq(do("a"), do("b")), do("c"))},
	{"{ { do a; do b }; do c }; do d", nil, seq(seq(seq(do("a"), do("b")), do("c")), do("d"))},
	{"do a; { do b; do c }; do d", nil, seq(do("a"), seq(seq(do("b"), do("c")), do("d")))},
	{"{ do a; { do b; do c }; do d }; skip", nil, seq(seq(do("a"), seq(seq(do("b"), do("c")), do("d"))), skip)},
	{"block { { do a; do b }; do c }", nil, node(api.TBlock, seq(seq(do("a"), do("b")), do("c")))},
	{"push s { block { par { skip } { exit } } }; reverse s; x := x - 1; call p", nil, seq(push("s", node(api.TBlock, node(api.TPar, skip, exit))), seq(named(api.TReverse, "s"), seq(set("x", pair(api.ESub, name("x"), num(1))), named(api.TCall, "p"))))},
}

func TestP301Bodies(t *testing.T) {
	for _, x := range bodies {
		for _, s := range append(x.also, x.text) {
			p, at, e := text.Parse(procOf(s))
			if e != api.OK || at != 0 || !same(p, program(x.p)) {
				t.Errorf("P301: %s: %v, %d, %v; want %v", s, p, at, e, x.p)
			}
		}
	}
}

func TestP302Bodies(t *testing.T) {
	for _, x := range bodies {
		if got := text.Text(program(x.p)); got != procOf(x.text)+"\n" {
			t.Errorf("P302: %q; want %s", got, x.text)
		}
	}
}

func TestP301Declarations(t *testing.T) {
	a := api.Program{Vars: []api.Var{{Name: "x", Value: 5}, {Name: "y", Value: -7}}, Stacks: []string{"s", "t"}, Procs: []api.Def{def("p", skip), def("q", do("a"))}}
	for _, s := range []string{
		"var x 5\nvar y -7\nstack s\nstack t\nproc p { skip }\nproc q { do a }\n",
		"proc p{skip}stack s var x 5 proc q{do a}stack t var y - 7",
		"# first\nstack s stack t # two\r\nproc p {skip} proc q {do a}\tvar x 5 var y -7",
	} {
		if p, at, e := text.Parse(s); e != api.OK || at != 0 || !same(p, a) {
			t.Errorf("P301: %q: %v, %d, %v", s, p, at, e)
		}
	}
	if got := text.Text(a); got != "var x 5\nvar y -7\nstack s\nstack t\nproc p { skip }\nproc q { do a }\n" {
		t.Errorf("P302: %q", got)
	}
	for s, want := range map[string]api.Program{
		"": {}, "# nothing": {}, " \n": {},
		"var x 0":                   {Vars: []api.Var{{Name: "x"}}},
		"var x -0":                  {Vars: []api.Var{{Name: "x"}}},
		"var x 999999999999999999":  {Vars: []api.Var{{Name: "x", Value: 999999999999999999}}},
		"var x -999999999999999999": {Vars: []api.Var{{Name: "x", Value: -999999999999999999}}},
		"var x 1 var x 2":           {Vars: []api.Var{{Name: "x", Value: 1}, {Name: "x", Value: 2}}},
		"stack s stack s":           {Stacks: []string{"s", "s"}},
		"var s 1 stack s":           {Vars: []api.Var{{Name: "s", Value: 1}}, Stacks: []string{"s"}},
	} {
		if p, at, e := text.Parse(s); e != api.OK || at != 0 || !same(p, want) {
			t.Errorf("P301: %q: %v, %d, %v", s, p, at, e)
		}
	}
}

func TestP302Values(t *testing.T) {
	p := api.Program{Vars: []api.Var{{Name: "a"}, {Name: "b", Value: 999999999999999999}, {Name: "c", Value: -999999999999999999}}}
	if got := text.Text(p); got != "var a 0\nvar b 999999999999999999\nvar c -999999999999999999\n" {
		t.Errorf("P302: %q", got)
	}
	if got := text.Text(api.Program{}); got != "" {
		t.Errorf("P302: %q", got)
	}
	if got := text.Text(api.Program{Stacks: []string{"s"}}); got != "stack s\n" {
		t.Errorf("P302: %q", got)
	}
}

func TestP301Errors(t *testing.T) {
	for _, x := range []struct {
		s  string
		at int
		e  api.Errno
	}{
		{"proc p { skip", 13, api.BadText},
		{"proc p { skip # }", 17, api.BadText},
		{"proc p { skip } ", 0, 0},
		{"skip", 0, api.BadText},
		{"x := 1", 0, api.BadText},
		{"main", 0, api.BadText},
		{"7", 0, api.BadText},
		{"{ skip }", 0, api.BadText},
		{"var", 3, api.BadText},
		{"var x", 5, api.BadText},
		{"var x -", 7, api.BadText},
		{"var x - -1", 8, api.BadText},
		{"var x +1", 6, api.BadText},
		{"var x y", 6, api.BadText},
		{"var x (1)", 6, api.BadText},
		{"var x := 1", 6, api.BadText},
		{"var x -y", 7, api.BadText},
		{"var x -> 1", 6, api.BadText},
		{"var 1 1", 4, api.BadText},
		{"var do 1", 4, api.BadText},
		{"var x 1;", 7, api.BadText},
		{"var x 1 2", 8, api.BadText},
		{"stack", 5, api.BadText},
		{"stack 1", 6, api.BadText},
		{"stack stack", 6, api.BadText},
		{"stack s t", 8, api.BadText},
		{"proc", 4, api.BadText},
		{"proc p", 6, api.BadText},
		{"proc p skip", 7, api.BadText},
		{"proc { skip }", 5, api.BadText},
		{"proc p { }", 9, api.BadText},
		{"proc p {}", 8, api.BadText},
		{"proc p { skip; }", 15, api.BadText},
		{"proc p { ; skip }", 9, api.BadText},
		{"proc p { skip;; skip }", 14, api.BadText},
		{"proc p { skip skip }", 14, api.BadText},
		{"proc p { skip } }", 16, api.BadText},
		{"proc p { skip };", 15, api.BadText},
		{"proc p { do }", 12, api.BadText},
		{"proc p { do 1 }", 12, api.BadText},
		{"proc p { do do }", 12, api.BadText},
		{"proc p { do a -> }", 17, api.BadText},
		{"proc p { do a -> 1 }", 17, api.BadText},
		{"proc p { do a - > x }", 14, api.BadText},
		{"proc p { x }", 11, api.BadText},
		{"proc p { x = 1 }", 11, api.BadSign},
		{"proc p { x == 1 }", 11, api.BadText},
		{"proc p { x := }", 14, api.BadText},
		{"proc p { x := 1 + }", 18, api.BadText},
		{"proc p { x := 1 2 }", 16, api.BadText},
		{"proc p { x := 1 == 2 == 3 }", 21, api.BadText},
		{"proc p { x := (1 }", 17, api.BadText},
		{"proc p { x := 1 +", 17, api.BadText},
		{"proc p { x :=", 13, api.BadText},
		{"proc p { 1 := 1 }", 9, api.BadText},
		{"proc p { push s }", 16, api.BadText},
		{"proc p { push { skip } }", 14, api.BadText},
		{"proc p { push s { } }", 18, api.BadText},
		{"proc p { push s skip }", 16, api.BadText},
		{"proc p { reverse }", 17, api.BadText},
		{"proc p { reverse 1 }", 17, api.BadText},
		{"proc p { accept }", 16, api.BadText},
		{"proc p { merge s }", 17, api.BadText},
		{"proc p { merge s, t }", 16, api.BadSign},
		{"proc p { merge s 1 }", 17, api.BadText},
		{"proc p { block skip }", 15, api.BadText},
		{"proc p { if { skip } else { skip } }", 12, api.BadText},
		{"proc p { if x skip else skip }", 14, api.BadText},
		{"proc p { if x { skip } }", 23, api.BadText},
		{"proc p { if x { skip } { skip } }", 23, api.BadText},
		{"proc p { if x { skip } else skip }", 28, api.BadText},
		{"proc p { if x { skip } else if x { skip } else { skip } }", 28, api.BadText},
		{"proc p { choose { skip } }", 25, api.BadText},
		{"proc p { choose { skip } { skip } { skip } }", 34, api.BadText},
		{"proc p { par { skip } skip }", 22, api.BadText},
		{"proc p { call }", 14, api.BadText},
		{"proc p { call 1 }", 14, api.BadText},
		{"proc p { else }", 9, api.BadText},
		{"proc p { var x 1 }", 9, api.BadText},
		{"proc p { stack s }", 9, api.BadText},
		{"proc p { proc q { skip } }", 9, api.BadText},
		{"proc p { skip } ?", 16, api.BadSign},
		{"skip = 1", 5, api.BadSign},
		{"skip 007", 5, api.BadSign},
		{"skip " + strings.Repeat("a", 21), 5, api.Limit},
		{"skip " + strings.Repeat(" ", 4000), 0, api.Limit},
	} {
		p, at, e := text.Parse(x.s)
		if e != x.e || at != x.at || e != api.OK && !same(p, api.Program{}) {
			t.Errorf("P301: %.60q: %v, %d, %v; want %d, %v", x.s, p, at, e, x.at, x.e)
		}
	}
}

func TestP301Deep(t *testing.T) {
	in := func(n int, s string) string {
		return "proc p " + strings.Repeat("{", n) + s + strings.Repeat("}", n)
	}
	minus := strings.Repeat("-", 20)
	for _, x := range []struct {
		s  string
		at int
		e  api.Errno
	}{
		{in(20, "skip"), 0, 0},
		{in(21, "skip"), 27, api.Limit},
		{in(25, "skip"), 27, api.Limit},
		{in(19, "block { skip }"), 0, 0},
		{in(20, "block { skip }"), 33, api.Limit},
		{in(20, "push s { skip }"), 34, api.Limit},
		{in(19, "choose { skip } { skip }"), 0, 0},
		{in(20, "choose { skip } { skip }"), 34, api.Limit},
		{in(20, "if 1 { skip } else { skip }"), 32, api.Limit},
		{in(19, "if 1 { skip } else { skip }; { skip }; par { skip } { skip }"), 0, 0},
		{in(20, "skip") + " " + in(20, "skip"), 0, 0},
		{in(20, "skip; do 1; { skip }"), 36, api.BadText},
		{in(20, "skip; { skip }; do 1"), 33, api.Limit},
		{"proc p " + strings.Repeat("{", 21), 27, api.Limit},
		{"proc p " + strings.Repeat("{", 20), 27, api.BadText},
		{"proc p { x := " + minus + "1 }", 0, 0},
		{"proc p { x := -" + minus + "1 }", 34, api.Limit},
		{"proc p { skip; if 1 + " + strings.Repeat("(", 21) + " { skip } else { skip } }", 42, api.Limit},
		{in(20, "x := "+strings.Repeat("(", 20)+"1"+strings.Repeat(")", 20)), 0, 0},
	} {
		if _, at, e := text.Parse(x.s); e != x.e || at != x.at {
			t.Errorf("P301: %s: %d, %v; want %d, %v", x.s, at, e, x.at, x.e)
		}
	}
}

func TestP301LongRow(t *testing.T) {
	s := "proc p {" + strings.Repeat("skip;", 797) + "skip}"
	p, at, e := text.Parse(s)
	if e != api.OK || at != 0 || len(p.Procs) != 1 {
		t.Fatalf("P301: %d, %v", at, e)
	}
	deep := 0
	for q := p.Procs[0].Body; q.Kind == api.TSeq; q = q.L[1] {
		deep++
	}
	if deep != 797 {
		t.Errorf("P301: %d deep", deep)
	}
}

var names = []string{"a", "b_1", "skips", "x", "abcdefghijklmnopqrst"}

func randomExpr(r *rand.Rand, deep int) api.Expr {
	if deep == 0 || r.Intn(3) == 0 {
		if r.Intn(2) == 0 {
			return num(r.Intn(1000))
		}
		return name(names[r.Intn(5)])
	}
	if kind := api.ENot + r.Intn(15); kind > api.ENeg {
		return pair(kind, randomExpr(r, deep-1), randomExpr(r, deep-1))
	} else {
		return pair(kind, randomExpr(r, deep-1))
	}
}

func randomProc(r *rand.Rand, deep int) api.Proc {
	n := func() string { return names[r.Intn(5)] }
	p := func() api.Proc { return randomProc(r, deep-1) }
	kind := r.Intn(14)
	for deep == 0 && strings.Contains(" 3 7 9 10 11 12 ", " "+strconv.Itoa(kind)+" ") {
		kind = r.Intn(14)
	}
	switch kind {
	case api.TDo:
		q := do(n())
		if r.Intn(2) == 0 {
			q.To = n()
		}
		return q
	case api.TSet:
		return set(n(), randomExpr(r, 3))
	case api.TPush:
		return push(n(), p())
	case api.TReverse, api.TAccept, api.TCall:
		return named(kind, n())
	case api.TMerge:
		return api.Proc{Kind: kind, Name: n(), To: n()}
	case api.TBlock:
		return node(kind, p())
	case api.TIf:
		return branch(randomExpr(r, 2), p(), p())
	case api.TChoose, api.TPar, api.TSeq:
		return node(kind, p(), p())
	}
	return node(kind)
}

func TestP303ThereAndBack(t *testing.T) {
	r := rand.New(rand.NewSource(8))
	read := 0
	for range 5000 {
		var p api.Program
		for range r.Intn(4) {
			p.Vars = append(p.Vars, api.Var{Name: names[r.Intn(5)], Value: r.Intn(2000) - 1000})
		}
		for range r.Intn(3) {
			p.Stacks = append(p.Stacks, names[r.Intn(5)])
		}
		for range r.Intn(3) {
			p.Procs = append(p.Procs, def(names[r.Intn(5)], randomProc(r, r.Intn(5))))
		}
		s := text.Text(p)
		if len(s) > 4000 {
			continue
		}
		read++
		q, at, e := text.Parse(s)
		if e != api.OK || at != 0 || !same(p, q) {
			t.Fatalf("P303: %s: %d, %v", s, at, e)
		}
		if text.Text(q) != s {
			t.Fatalf("P303: %s: %s", s, text.Text(q))
		}
	}
	if read < 4000 {
		t.Errorf("only %d texts were short enough", read)
	}
}

// Whatever the gaps between the signs, the program is the same.
func TestP301GapsDoNotCount(t *testing.T) {
	r := rand.New(rand.NewSource(9))
	gaps := []string{" ", "\n", "\t", "\r\n", " # {;\n"}
	for range 1000 {
		p := program(randomProc(r, 3))
		l, _, e := lex.Signs(text.Text(p))
		if e != api.OK {
			continue
		}
		var b strings.Builder
		for _, s := range l {
			b.WriteString(s.Text + gaps[r.Intn(5)])
		}
		if q, at, e := text.Parse(b.String()); e != api.OK && b.Len() <= 4000 || e == api.OK && !same(p, q) {
			t.Fatalf("P301: %q: %d, %v", b.String(), at, e)
		}
	}
}

// Of what is cut or spoilt: no panic, nothing beside an error, and a place in the text.
func TestP301Spoilt(t *testing.T) {
	r := rand.New(rand.NewSource(10))
	for range 30000 {
		s := []byte(text.Text(program(randomProc(r, r.Intn(4)))))
		switch r.Intn(3) {
		case 0:
			s = s[:r.Intn(len(s))]
		case 1:
			s[r.Intn(len(s))] = " {};x1(-="[r.Intn(9)]
		case 2:
			i, j := r.Intn(len(s)), r.Intn(len(s))
			s = append(s[:i:i], s[j:]...)
		}
		p, at, e := text.Parse(string(s))
		if at < 0 || at > len(s) || e == api.OK && at != 0 || e != api.OK && !same(p, api.Program{}) {
			t.Fatalf("P4: %q: %v, %d, %v", s, p, at, e)
		}
		if e != api.OK && e != api.BadText && e != api.BadSign && e != api.Limit {
			t.Fatalf("P301: %q: %v", s, e)
		}
		if l, where, lexed := lex.Signs(string(s)); lexed != api.OK && (e != lexed || at != where || len(l) != 0) {
			t.Fatalf("P301: %q: %d, %v; lex: %d, %v", s, at, e, where, lexed)
		}
	}
}

func wild(r *rand.Rand, deep int) api.Proc {
	p := api.Proc{Kind: r.Intn(17) - 1, Name: names[r.Intn(5)], To: []string{"", "x"}[r.Intn(2)]}
	if r.Intn(2) == 0 {
		p.E = api.Expr{Kind: r.Intn(19), L: make([]api.Expr, r.Intn(3))}
	}
	if deep > 0 {
		for range r.Intn(4) {
			p.L = append(p.L, wild(r, deep-1))
		}
	}
	return p
}

func TestP1AnyProgram(t *testing.T) {
	r := rand.New(rand.NewSource(11))
	for range 20000 {
		text.Text(api.Program{Vars: []api.Var{{Value: math.MinInt}}, Stacks: []string{""}, Procs: []api.Def{{Body: wild(r, 3)}}})
	}
}

func TestP302Deeper(t *testing.T) {
	p, q, want := skip, skip, ""
	for range 1000 {
		p = node(api.TBlock, p)
		q = seq(q, skip)
	}
	want = strings.Repeat("block { ", 1000) + "skip" + strings.Repeat(" }", 1000)
	if got := text.Text(program(p)); got != procOf(want)+"\n" {
		t.Errorf("P302: %d bytes", len(got))
	}
	want = strings.Repeat("{ ", 999) + "skip; skip" + strings.Repeat(" }; skip", 999)
	if got := text.Text(program(q)); got != procOf(want)+"\n" {
		t.Errorf("P302: %d bytes", len(got))
	}
}

func TestP2AnswersAreNew(t *testing.T) {
	s := "var x 1 stack s proc p { push s { x := x + 1 }; skip }"
	a, _, _ := text.Parse(s)
	b, _, _ := text.Parse(s)
	a.Vars[0] = api.Var{}
	a.Stacks[0] = ""
	a.Procs[0].Body.L[0].L[0].E.L[0] = num(9)
	a.Procs[0].Body.L[1] = exit
	if got := text.Text(b); got != "var x 1\nstack s\nproc p { push s { x := x + 1 }; skip }\n" {
		t.Errorf("P2: %q", got)
	}
	if expr.Text(b.Procs[0].Body.L[0].L[0].E) != "x + 1" {
		t.Error("P2: two answers share memory")
	}
}
