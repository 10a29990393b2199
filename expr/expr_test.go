package expr_test

import (
	"math"
	"math/big"
	"math/rand"
	"reflect"
	"strings"
	"testing"

	"penance/api"
	"penance/expr"
	"penance/lex"
)

func num(n int) api.Expr                    { return api.Expr{Kind: api.ENum, N: n} }
func name(s string) api.Expr                { return api.Expr{Kind: api.EVar, Name: s} }
func at(n int) api.Expr                     { return api.Expr{Kind: api.EVar, N: n} }
func node(kind int, l ...api.Expr) api.Expr { return api.Expr{Kind: kind, L: l} }

func signs(t *testing.T, s string) []api.Sign {
	t.Helper()
	l, at, e := lex.Signs(s)
	if e != api.OK {
		t.Fatalf("no signs: %q: %d, %v", s, at, e)
	}
	return l
}

func same(a, b api.Expr) bool {
	if a.Kind != b.Kind || a.N != b.N || a.Name != b.Name || len(a.L) != len(b.L) {
		return false
	}
	for i := range a.L {
		if !same(a.L[i], b.L[i]) {
			return false
		}
	}
	return true
}

func copied(x api.Expr) api.Expr {
	y := x
	y.L = nil
	for _, c := range x.L {
		y.L = append(y.L, copied(c))
	}
	return y
}

var a, b, c, d = name("a"), name("b"), name("c"), name("d")

var mark = map[int]string{api.EMul: "*", api.EDiv: "/", api.EMod: "%", api.EAdd: "+", api.ESub: "-", api.EEq: "==", api.ENe: "!=", api.ELt: "<", api.ELe: "<=", api.EGt: ">", api.EGe: ">=", api.EAnd: "&&", api.EOr: "||"}

var level = map[int]int{api.EMul: 5, api.EDiv: 5, api.EMod: 5, api.EAdd: 4, api.ESub: 4, api.EEq: 3, api.ENe: 3, api.ELt: 3, api.ELe: 3, api.EGt: 3, api.EGe: 3, api.EAnd: 2, api.EOr: 1}

func TestP201Parse(t *testing.T) {
	for s, want := range map[string]struct {
		x    api.Expr
		used int
	}{
		"7":                  {num(7), 1},
		"999999999999999999": {num(999999999999999999), 1},
		"0":                  {num(0), 1},
		"a":                  {a, 1},
		"(a)":                {a, 3},
		"((7))":              {num(7), 5},
		"-a":                 {node(api.ENeg, a), 2},
		"!a":                 {node(api.ENot, a), 2},
		"!-!a":               {node(api.ENot, node(api.ENeg, node(api.ENot, a))), 4},
		"-7":                 {node(api.ENeg, num(7)), 2},
		"a-b":                {node(api.ESub, a, b), 3},
		"a--b":               {node(api.ESub, a, node(api.ENeg, b)), 4},
		"-a-b":               {node(api.ESub, node(api.ENeg, a), b), 4},
		"-a*b":               {node(api.EMul, node(api.ENeg, a), b), 4},
		"!a==b":              {node(api.EEq, node(api.ENot, a), b), 4},
		"!(a==b)":            {node(api.ENot, node(api.EEq, a, b)), 6},
		"-(a+b)*c":           {node(api.EMul, node(api.ENeg, node(api.EAdd, a, b)), c), 8},
		"a-b-c":              {node(api.ESub, node(api.ESub, a, b), c), 5},
		"a-(b-c)":            {node(api.ESub, a, node(api.ESub, b, c)), 7},
		"a/b*c%d":            {node(api.EMod, node(api.EMul, node(api.EDiv, a, b), c), d), 7},
		"a+b*c":              {node(api.EAdd, a, node(api.EMul, b, c)), 5},
		"a*b+c":              {node(api.EAdd, node(api.EMul, a, b), c), 5},
		"(a+b)*c":            {node(api.EMul, node(api.EAdd, a, b), c), 7},
		"a+b<c-d":            {node(api.ELt, node(api.EAdd, a, b), node(api.ESub, c, d)), 7},
		"a<b&&c>=d":          {node(api.EAnd, node(api.ELt, a, b), node(api.EGe, c, d)), 7},
		"a||b&&c||d":         {node(api.EOr, node(api.EOr, a, node(api.EAnd, b, c)), d), 7},
		"a&&b&&c":            {node(api.EAnd, node(api.EAnd, a, b), c), 5},
		"a||b||c":            {node(api.EOr, node(api.EOr, a, b), c), 5},
		"a&&b||c&&d":         {node(api.EOr, node(api.EAnd, a, b), node(api.EAnd, c, d)), 7},
		"a==b==c":            {node(api.EEq, a, b), 3},
		"a<b<c":              {node(api.ELt, a, b), 3},
		"a!=b>c":             {node(api.ENe, a, b), 3},
		"a<=b+c==d":          {node(api.ELe, a, node(api.EAdd, b, c)), 5},
		"a==b&&c==d":         {node(api.EAnd, node(api.EEq, a, b), node(api.EEq, c, d)), 7},
		"a&&b==c==d":         {node(api.EAnd, a, node(api.EEq, b, c)), 5},
		"a||b<c<d||a":        {node(api.EOr, a, node(api.ELt, b, c)), 5},
		"(a==b)==c":          {node(api.EEq, node(api.EEq, a, b), c), 7},
		"a==(b==c)":          {node(api.EEq, a, node(api.EEq, b, c)), 7},
		"a>b":                {node(api.EGt, a, b), 3},
		"a b":                {a, 1},
		"a 1":                {a, 1},
		"1 a":                {num(1), 1},
		"a)":                 {a, 1},
		"a {":                {a, 1},
		"a;":                 {a, 1},
		"a!b":                {a, 1},
		"a(b":                {a, 1},
		"a do":               {a, 1},
		"a := b":             {a, 1},
		"a -> b":             {a, 1},
		"a + b } c":          {node(api.EAdd, a, b), 3},
	} {
		l := signs(t, s)
		x, used, e := expr.Parse(l)
		if e != api.OK || used != want.used || !same(x, want.x) {
			t.Errorf("P201: %q: %v, %d, %v; want %v, %d", s, x, used, e, want.x, want.used)
		}
		if !reflect.DeepEqual(l, signs(t, s)) {
			t.Errorf("P2: %q: the signs are changed", s)
		}
	}
}

func TestP201Errors(t *testing.T) {
	open := strings.Repeat("(", 20)
	for _, x := range []struct {
		s    string
		used int
		e    api.Errno
	}{
		{"", 0, api.BadText},
		{"+a", 0, api.BadText},
		{"*", 0, api.BadText},
		{")", 0, api.BadText},
		{"{", 0, api.BadText},
		{"do", 0, api.BadText},
		{"var", 0, api.BadText},
		{":= a", 0, api.BadText},
		{"-", 1, api.BadText},
		{"- skip", 1, api.BadText},
		{"!", 1, api.BadText},
		{"!)", 1, api.BadText},
		{"-+a", 1, api.BadText},
		{"a +", 2, api.BadText},
		{"a + ;", 2, api.BadText},
		{"a + * b", 2, api.BadText},
		{"a == ", 2, api.BadText},
		{"a == == b", 2, api.BadText},
		{"a && || b", 2, api.BadText},
		{"a && call", 2, api.BadText},
		{"a - -> b", 2, api.BadText},
		{"(", 1, api.BadText},
		{"()", 1, api.BadText},
		{"(a", 2, api.BadText},
		{"(a b)", 2, api.BadText},
		{"(a == b == c)", 4, api.BadText},
		{"(a + b", 4, api.BadText},
		{"a * (b + c", 6, api.BadText},
		{"(a; b)", 2, api.BadText},
		{"(a := b)", 2, api.BadText},
		{open + "(a", 20, api.Limit},
		{open + "-a", 20, api.Limit},
		{open + "!a", 20, api.Limit},
		{strings.Repeat("-", 21), 20, api.Limit},
		{strings.Repeat("!", 21) + "a", 20, api.Limit},
		{strings.Repeat("-!(", 7), 20, api.Limit},
		{"a + " + strings.Repeat("-", 21) + "a", 22, api.Limit},
		{strings.Repeat("(", 40), 20, api.Limit},
		{open + "a + -b", 22, api.Limit},
		{open + "a)", 22, api.BadText},
		{open, 20, api.BadText},
		{"+ " + strings.Repeat("(", 21), 0, api.BadText},
		{"(+" + strings.Repeat("(", 21), 1, api.BadText},
		{strings.Repeat("(", 21) + "+", 20, api.Limit},
	} {
		y, used, e := expr.Parse(signs(t, x.s))
		if e != x.e || used != x.used || !same(y, api.Expr{}) {
			t.Errorf("P201: %q: %v, %d, %v; want %d, %v", x.s, y, used, e, x.used, x.e)
		}
	}
}

// As deep as may be: what is at its end counts no more.
func TestP201AsDeepAsMayBe(t *testing.T) {
	open, shut := strings.Repeat("(", 20), strings.Repeat(")", 20)
	for s, n := range map[string]int{
		open + "a" + shut:                                                       41,
		strings.Repeat("-", 20) + "a":                                           21,
		strings.Repeat("!", 20) + "7":                                           21,
		open + "a - b" + shut:                                                   43,
		open + "a" + shut + "+" + open + "b" + shut:                             83,
		strings.Repeat("-", 20) + "a - " + strings.Repeat("!", 20) + "b":        43,
		strings.Repeat("(-a)+", 30) + "a":                                       151,
		"(" + strings.Repeat("-", 19) + "a - " + strings.Repeat("-", 19) + "b)": 43,
	} {
		if _, used, e := expr.Parse(signs(t, s)); e != api.OK || used != n {
			t.Errorf("P201: %q: %d, %v; want %d", s, used, e, n)
		}
	}
}

func TestP201LongRows(t *testing.T) {
	x, used, e := expr.Parse(signs(t, "a"+strings.Repeat("-a", 1999)))
	deep := 0
	for y := x; len(y.L) == 2; y = y.L[0] {
		deep++
	}
	if e != api.OK || used != 3999 || deep != 1999 {
		t.Errorf("P201: %d, %v, %d deep", used, e, deep)
	}
}

// random makes an expression; names or numbers of variables.
func random(r *rand.Rand, deep int, names bool) api.Expr {
	if deep == 0 || r.Intn(6) == 0 {
		switch {
		case r.Intn(2) == 0:
			return num([]int{0, 1, 2, 3, 7, 10, r.Intn(1000), 999999999999999999}[r.Intn(8)])
		case names:
			return name(string(rune('a' + r.Intn(5))))
		}
		return at(r.Intn(5))
	}
	if kind := api.ENot + r.Intn(15); kind > api.ENeg {
		return node(kind, random(r, deep-1, names), random(r, deep-1, names))
	} else {
		return node(kind, random(r, deep-1, names))
	}
}

// short writes with brackets only where they must be.
func short(x api.Expr, r *rand.Rand) string {
	gap := strings.Repeat(" ", r.Intn(2))
	switch {
	case len(x.L) == 0:
		return expr.Text(x)
	case x.Kind == api.ENeg:
		return "-" + gap + inner(x.L[0], 6, r)
	case x.Kind == api.ENot:
		return "!" + gap + inner(x.L[0], 6, r)
	}
	n := level[x.Kind]
	left := n
	if n == 3 {
		left = 4
	}
	return inner(x.L[0], left, r) + gap + mark[x.Kind] + " " + inner(x.L[1], n+1, r)
}

func inner(x api.Expr, least int, r *rand.Rand) string {
	if len(x.L) == 2 && level[x.Kind] < least {
		return "(" + short(x, r) + ")"
	}
	return short(x, r)
}

func TestP201BindingRandom(t *testing.T) {
	r := rand.New(rand.NewSource(3))
	for range 20000 {
		x := random(r, 1+r.Intn(5), true)
		s := short(x, r)
		l := signs(t, s)
		y, used, e := expr.Parse(l)
		if e != api.OK || used != len(l) || !same(x, y) {
			t.Fatalf("P201: %q: %v, %d, %v", s, y, used, e)
		}
	}
}

func TestP1ParseOfAnySigns(t *testing.T) {
	r := rand.New(rand.NewSource(4))
	texts := strings.Fields("a do 7 0 ( ) - ! + * == < && || { } ; := -> é")
	texts = append(texts, "", "99999999999999999999", "-5", "x y")
	for range 50000 {
		l := make([]api.Sign, r.Intn(12))
		for i := range l {
			l[i] = api.Sign{Kind: r.Intn(5), Text: texts[r.Intn(len(texts))], At: r.Intn(9) - 4}
		}
		x, used, e := expr.Parse(l)
		if used < 0 || used > len(l) || e != api.OK && !same(x, api.Expr{}) {
			t.Fatalf("P1: %v: %v, %d, %v", l, x, used, e)
		}
	}
}

func TestP202Text(t *testing.T) {
	for want, x := range map[string]api.Expr{
		"0":                    num(0),
		"999999999999999999":   num(999999999999999999),
		"a":                    a,
		"-a":                   node(api.ENeg, a),
		"!7":                   node(api.ENot, num(7)),
		"--a":                  node(api.ENeg, node(api.ENeg, a)),
		"!-a":                  node(api.ENot, node(api.ENeg, a)),
		"-(a - b)":             node(api.ENeg, node(api.ESub, a, b)),
		"!(a && b)":            node(api.ENot, node(api.EAnd, a, b)),
		"a - -b":               node(api.ESub, a, node(api.ENeg, b)),
		"(a + b) + c":          node(api.EAdd, node(api.EAdd, a, b), c),
		"a + (b + c)":          node(api.EAdd, a, node(api.EAdd, b, c)),
		"(a * b) + (c * d)":    node(api.EAdd, node(api.EMul, a, b), node(api.EMul, c, d)),
		"((a || b) && c) == 1": node(api.EEq, node(api.EAnd, node(api.EOr, a, b), c), num(1)),
		"-!-(a % -1)":          node(api.ENeg, node(api.ENot, node(api.ENeg, node(api.EMod, a, node(api.ENeg, num(1)))))),
	} {
		if got := expr.Text(x); got != want {
			t.Errorf("P202: %q; want %q", got, want)
		}
	}
	for kind, m := range mark {
		if got := expr.Text(node(kind, a, num(5))); got != "a "+m+" 5" {
			t.Errorf("P202: %q; want the sign %s", got, m)
		}
	}
}

func TestP202Deeper(t *testing.T) {
	x, y := a, a
	for range 4000 {
		x = node(api.EAdd, x, b)
		y = node(api.ENeg, y)
	}
	if got := expr.Text(x); got != strings.Repeat("(", 3999)+"a"+strings.Repeat(" + b)", 3999)+" + b" {
		t.Errorf("P202: %d bytes", len(got))
	}
	if got := expr.Text(y); got != strings.Repeat("-", 4000)+"a" {
		t.Errorf("P202: %d bytes", len(got))
	}
	if l := expr.Names(x); !reflect.DeepEqual(l, []string{"a", "b"}) {
		t.Errorf("P202: %v", l)
	}
}

func TestP202Names(t *testing.T) {
	for _, x := range []struct {
		x    api.Expr
		want string
	}{
		{num(1), ""}, {a, "a"}, {node(api.ENeg, b), "b"}, {node(api.EAdd, b, a), "b a"}, {node(api.EAdd, node(api.EMul, c, a), node(api.ESub, a, node(api.ENot, d))), "c a d"}, {node(api.EAnd, num(0), node(api.EOr, b, b)), "b"},
	} {
		if l := expr.Names(x.x); strings.Join(l, " ") != x.want {
			t.Errorf("P202: %v; want %s", l, x.want)
		}
	}
	many := num(0)
	for i := range 300 {
		many = node(api.EAdd, many, name("v"+string(rune('a'+i%26))+string(rune('a'+i/26))))
	}
	if l := expr.Names(many); len(l) != 300 || l[0] != "vaa" || l[299] != "vnl" {
		t.Errorf("P202: %d names", len(l))
	}
}

func TestP204ThereAndBack(t *testing.T) {
	r := rand.New(rand.NewSource(5))
	for range 20000 {
		x := random(r, 1+r.Intn(6), true)
		l := signs(t, expr.Text(x))
		y, used, e := expr.Parse(l)
		if e != api.OK || used != len(l) || !same(x, y) {
			t.Fatalf("P204: %q: %v, %d, %v", expr.Text(x), y, used, e)
		}
	}
}

func TestP203Right(t *testing.T) {
	for i, x := range []struct {
		x    api.Expr
		vars int
		want bool
	}{
		{num(0), 0, true}, {num(5), 0, true}, {num(math.MaxInt), 0, true}, {num(-1), 9, false},
		{at(0), 1, true}, {at(0), 0, false}, {at(2), 3, true}, {at(3), 3, false}, {at(-1), 3, false}, {at(0), -1, false},
		{api.Expr{}, 3, false}, {api.Expr{Kind: 18}, 3, false}, {api.Expr{Kind: -1}, 3, false}, {node(18, at(0), at(0)), 3, false}, {node(0), 3, false},
		{api.Expr{Kind: api.ENum, Name: "a"}, 3, false}, {api.Expr{Kind: api.EVar, Name: "a"}, 3, false}, {api.Expr{Kind: api.ENeg, Name: "a", L: []api.Expr{num(0)}}, 3, false}, {api.Expr{Kind: api.EOr, Name: "a", L: []api.Expr{num(0), num(0)}}, 3, false},
		{api.Expr{Kind: api.ENeg, N: 1, L: []api.Expr{num(0)}}, 3, false}, {api.Expr{Kind: api.EMul, N: -1, L: []api.Expr{num(0), num(0)}}, 3, false},
		{api.Expr{Kind: api.ENum, L: []api.Expr{num(0)}}, 3, false}, {api.Expr{Kind: api.EVar, L: []api.Expr{num(0)}}, 3, false}, {api.Expr{Kind: api.ENum, L: []api.Expr{}}, 3, true},
		{node(api.ENot), 3, false}, {node(api.ENeg), 3, false}, {node(api.ENot, num(1)), 3, true}, {node(api.ENeg, num(1)), 3, true}, {node(api.ENeg, num(1), num(1)), 3, false}, {node(api.ENot, num(1), num(1)), 3, false},
		{node(api.ENeg, num(-1)), 3, false}, {node(api.EAdd, num(1), at(3)), 3, false}, {node(api.EAdd, at(3), num(1)), 3, false}, {node(api.EAdd, node(api.ENeg, at(2)), num(1)), 3, true}, {node(api.EAdd, node(api.ENeg, at(3)), num(1)), 3, false},
	} {
		if expr.Right(x.x, x.vars) != x.want {
			t.Errorf("P203: %d: %v of %d is not %v", i, x.x, x.vars, x.want)
		}
	}
	for kind := range mark {
		two := node(kind, at(0), num(3))
		if !expr.Right(two, 1) || expr.Right(two, 0) || expr.Right(node(kind), 1) || expr.Right(node(kind, at(0)), 1) || expr.Right(node(kind, at(0), at(0), at(0)), 1) {
			t.Errorf("P203: kind %d", kind)
		}
	}
}

const most, least = math.MaxInt, math.MinInt

func TestP203Eval(t *testing.T) {
	v := []int{most, least, -1, 7, 0}
	for i, x := range []struct {
		x    api.Expr
		want int
		e    api.Errno
	}{
		{num(5), 5, 0}, {at(0), most, 0}, {at(1), least, 0}, {at(3), 7, 0},
		{node(api.EMod, num(7), num(0)), 0, api.Zero}, {node(api.EDiv, num(7), num(0)), 0, api.Zero}, {node(api.EDiv, num(0), num(0)), 0, api.Zero},
		{node(api.EMod, at(1), num(0)), 0, api.Zero}, {node(api.EDiv, at(1), num(0)), 0, api.Zero},
		{node(api.EDiv, num(7), num(2)), 3, 0}, {node(api.EDiv, node(api.ENeg, num(7)), num(2)), -3, 0}, {node(api.EDiv, num(7), node(api.ENeg, num(2))), -3, 0}, {node(api.EDiv, node(api.ENeg, num(7)), node(api.ENeg, num(2))), 3, 0},
		{node(api.EMod, num(7), num(2)), 1, 0}, {node(api.EMod, node(api.ENeg, num(7)), num(2)), -1, 0}, {node(api.EMod, num(7), node(api.ENeg, num(2))), 1, 0}, {node(api.EMod, node(api.ENeg, num(7)), node(api.ENeg, num(2))), -1, 0},
		{node(api.EMod, at(1), at(2)), 0, 0}, {node(api.EMod, num(5), at(2)), 0, 0}, {node(api.EMod, at(1), num(10)), least % 10, 0},
		{node(api.EDiv, at(1), at(2)), 0, api.Overflow}, {node(api.EDiv, at(0), at(2)), -most, 0}, {node(api.EDiv, at(1), num(1)), least, 0},
		{node(api.ENeg, at(1)), 0, api.Overflow}, {node(api.ENeg, at(0)), -most, 0}, {node(api.ENeg, num(0)), 0, 0},
		{node(api.EAdd, at(0), num(1)), 0, api.Overflow}, {node(api.EAdd, at(0), num(0)), most, 0}, {node(api.EAdd, at(1), at(2)), 0, api.Overflow}, {node(api.EAdd, at(1), at(0)), -1, 0}, {node(api.EAdd, at(0), at(0)), 0, api.Overflow}, {node(api.EAdd, at(1), at(1)), 0, api.Overflow},
		{node(api.ESub, at(1), num(1)), 0, api.Overflow}, {node(api.ESub, at(0), at(2)), 0, api.Overflow}, {node(api.ESub, num(0), at(1)), 0, api.Overflow}, {node(api.ESub, at(2), at(1)), most, 0}, {node(api.ESub, at(1), at(1)), 0, 0}, {node(api.ESub, at(1), at(2)), least + 1, 0},
		{node(api.EMul, at(1), at(2)), 0, api.Overflow}, {node(api.EMul, at(2), at(1)), 0, api.Overflow}, {node(api.EMul, at(0), at(2)), -most, 0}, {node(api.EMul, at(1), num(0)), 0, 0}, {node(api.EMul, num(0), at(1)), 0, 0}, {node(api.EMul, at(1), num(1)), least, 0}, {node(api.EMul, at(1), num(2)), 0, api.Overflow}, {node(api.EMul, num(4294967296), num(2147483648)), 0, api.Overflow}, {node(api.EMul, num(4294967296), node(api.ENeg, num(2147483648))), least, 0}, {node(api.EMul, num(4294967296), num(4294967296)), 0, api.Overflow},
		{node(api.ENot, num(0)), 1, 0}, {node(api.ENot, num(1)), 0, 0}, {node(api.ENot, at(2)), 0, 0}, {node(api.ENot, at(1)), 0, 0},
		{node(api.EAnd, num(7), num(8)), 1, 0}, {node(api.EAnd, num(7), num(0)), 0, 0}, {node(api.EAnd, num(0), num(7)), 0, 0}, {node(api.EAnd, at(2), at(2)), 1, 0},
		{node(api.EOr, num(0), num(8)), 1, 0}, {node(api.EOr, num(0), num(0)), 0, 0}, {node(api.EOr, num(9), num(0)), 1, 0}, {node(api.EOr, at(1), num(0)), 1, 0}, {node(api.EOr, num(0), at(2)), 1, 0},
		{node(api.EAnd, num(0), node(api.EDiv, num(1), num(0))), 0, 0}, {node(api.EOr, num(2), node(api.EDiv, num(1), num(0))), 1, 0},
		{node(api.EAnd, num(1), node(api.EDiv, num(1), num(0))), 0, api.Zero}, {node(api.EOr, num(0), node(api.EDiv, num(1), num(0))), 0, api.Zero},
		{node(api.EAnd, node(api.EDiv, num(1), num(0)), num(0)), 0, api.Zero}, {node(api.EOr, node(api.ENeg, at(1)), num(1)), 0, api.Overflow},
		{node(api.EAdd, node(api.ENeg, at(1)), node(api.EDiv, num(1), num(0))), 0, api.Overflow}, {node(api.EAdd, node(api.EDiv, num(1), num(0)), node(api.ENeg, at(1))), 0, api.Zero},
		{node(api.EDiv, node(api.ENeg, at(1)), num(0)), 0, api.Overflow}, {node(api.EMul, num(0), node(api.EDiv, num(1), num(0))), 0, api.Zero}, {node(api.ENot, node(api.EMod, num(1), num(0))), 0, api.Zero},
		{node(api.EEq, node(api.EMod, num(1), num(0)), num(1)), 0, api.Zero},
	} {
		if got, e := expr.Eval(x.x, v); got != x.want || e != x.e {
			t.Errorf("P203: %d: %s: %d, %v; want %d, %v", i, expr.Text(x.x), got, e, x.want, x.e)
		}
	}
}

func TestP203Compares(t *testing.T) {
	for _, x := range []struct {
		a, b int
		want [6]int // == != < <= > >=
	}{{1, 2, [6]int{0, 1, 1, 1, 0, 0}}, {2, 1, [6]int{0, 1, 0, 0, 1, 1}}, {2, 2, [6]int{1, 0, 0, 1, 0, 1}}, {least, most, [6]int{0, 1, 1, 1, 0, 0}}, {-1, -1, [6]int{1, 0, 0, 1, 0, 1}}} {
		for i, want := range x.want {
			if got, e := expr.Eval(node(api.EEq+i, at(0), at(1)), []int{x.a, x.b}); got != want || e != 0 {
				t.Errorf("P203: %d %s %d: %d, %v", x.a, mark[api.EEq+i], x.b, got, e)
			}
		}
	}
}

// reckon is Eval by numbers without bounds.
func reckon(x api.Expr, v []int) (*big.Int, api.Errno) {
	truth := func(is bool) (*big.Int, api.Errno) {
		if is {
			return big.NewInt(1), 0
		}
		return big.NewInt(0), 0
	}
	switch x.Kind {
	case api.ENum:
		return big.NewInt(int64(x.N)), 0
	case api.EVar:
		return big.NewInt(int64(v[x.N])), 0
	}
	p, e := reckon(x.L[0], v)
	if e != 0 {
		return nil, e
	}
	z := new(big.Int)
	if x.Kind == api.ENot {
		return truth(p.Sign() == 0)
	}
	if x.Kind == api.EAnd && p.Sign() == 0 || x.Kind == api.EOr && p.Sign() != 0 {
		return truth(x.Kind == api.EOr)
	}
	if x.Kind == api.ENeg {
		z.Neg(p)
	} else {
		q, e := reckon(x.L[1], v)
		if e != 0 {
			return nil, e
		}
		switch x.Kind {
		case api.EMul:
			z.Mul(p, q)
		case api.EDiv, api.EMod:
			if q.Sign() == 0 {
				return nil, api.Zero
			}
			if x.Kind == api.EDiv {
				z.Quo(p, q)
			} else {
				z.Rem(p, q)
			}
		case api.EAdd:
			z.Add(p, q)
		case api.ESub:
			z.Sub(p, q)
		case api.EAnd, api.EOr:
			return truth(q.Sign() != 0)
		default:
			n := p.Cmp(q)
			return truth([]bool{n == 0, n != 0, n < 0, n <= 0, n > 0, n >= 0}[x.Kind-api.EEq])
		}
	}
	if !z.IsInt64() {
		return nil, api.Overflow
	}
	return z, 0
}

func TestP203EvalRandom(t *testing.T) {
	r := rand.New(rand.NewSource(6))
	for range 50000 {
		x := random(r, 1+r.Intn(6), false)
		v := []int{most, least, -1, r.Intn(100) - 50, r.Int() - r.Int()}
		r.Shuffle(5, func(i, j int) { v[i], v[j] = v[j], v[i] })
		want, wantE := reckon(x, v)
		got, e := expr.Eval(x, v)
		if e != wantE || e == 0 && int64(got) != want.Int64() || e != 0 && got != 0 {
			t.Fatalf("P203: %v of %v: %d, %v; want %v, %v", x, v, got, e, want, wantE)
		}
		if !expr.Right(x, 5) {
			t.Fatalf("P203: %v is not Right", x)
		}
	}
}

// wild makes an expression that may be anything.
func wild(r *rand.Rand, deep int) api.Expr {
	x := api.Expr{Kind: r.Intn(21) - 1, N: r.Intn(7) - 2}
	if r.Intn(3) == 0 {
		x.Name = []string{"a", "B", "do", ""}[r.Intn(4)]
	}
	if deep > 0 {
		for range r.Intn(4) {
			x.L = append(x.L, wild(r, deep-1))
		}
	}
	return x
}

func TestP1AnyExpression(t *testing.T) {
	r := rand.New(rand.NewSource(7))
	for range 50000 {
		x := wild(r, 3)
		was := copied(x)
		expr.Text(x)
		expr.Names(x)
		expr.Right(x, r.Intn(6)-1)
		expr.Eval(x, make([]int, r.Intn(4)))
		if !same(x, was) {
			t.Fatalf("P2: %v is changed", x)
		}
	}
}

func TestP1AsDeepAsHandedIn(t *testing.T) {
	x, y := num(1), num(1)
	for range 4000 {
		x = node(api.ENot, x)
		y = node(api.EAdd, y, num(1))
	}
	if got, e := expr.Eval(x, nil); got != 1 || e != 0 || !expr.Right(x, 0) {
		t.Errorf("P203: %d, %v", got, e)
	}
	if got, e := expr.Eval(y, nil); got != 4001 || e != 0 || !expr.Right(y, 0) {
		t.Errorf("P203: %d, %v", got, e)
	}
}

func TestP2AnswersAreNew(t *testing.T) {
	l := signs(t, "a + b * c")
	x, _, _ := expr.Parse(l)
	y, _, _ := expr.Parse(l)
	x.L[0] = num(1)
	x.L[1].L[0] = num(2)
	if !same(y, node(api.EAdd, a, node(api.EMul, b, c))) {
		t.Error("P2: two answers share memory")
	}
	names := expr.Names(y)
	names[0] = "z"
	if expr.Names(y)[0] != "a" {
		t.Error("P2: two answers share memory")
	}
}
