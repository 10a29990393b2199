package expr

import (
	"strconv"

	"penance/api"
	"penance/lex"
)

// operator is what stands between two expressions; a greater level binds closer.
type operator struct {
	text        string
	kind, level int
}

const (
	loosest  = 1
	compares = 3 // of these one at most stands in a row
	closest  = 5
)

var operators = [...]operator{
	{"*", api.EMul, 5}, {"/", api.EDiv, 5}, {"%", api.EMod, 5},
	{"+", api.EAdd, 4}, {"-", api.ESub, 4},
	{"==", api.EEq, 3}, {"!=", api.ENe, 3}, {"<", api.ELt, 3}, {"<=", api.ELe, 3}, {">", api.EGt, 3}, {">=", api.EGe, 3},
	{"&&", api.EAnd, 2},
	{"||", api.EOr, 1},
}

// reader reads signs; behind its first fault it reads no more.
type reader struct {
	signs []api.Sign
	next  int
	deep  int // how many `(`, `-`, `!` are not at their end
	fault api.Errno
}

// Parse tells the longest expression that l begins with, and of how many signs it is; of an error, the sign's place.
func Parse(l []api.Sign) (x api.Expr, used int, e api.Errno) {
	r := reader{signs: l}
	x = r.level(loosest)
	if r.fault != api.OK {
		return api.Expr{}, r.next, r.fault
	}
	return x, r.next, api.OK
}

// level reads what operators of one level, or closer ones, hold together.
func (r *reader) level(n int) api.Expr {
	if n > closest {
		return r.operand()
	}
	x := r.level(n + 1)
more:
	kind := r.between(n)
	if kind == 0 {
		return x
	}
	x = api.Expr{Kind: kind, L: []api.Expr{x, r.level(n + 1)}}
	if n == compares {
		return x
	}
	goto more
}

// between reads an operator of a level; 0: there is none.
func (r *reader) between(level int) int {
	mark := r.mark()
	for _, o := range operators {
		if o.level == level && o.text == mark {
			r.next++
			return o.kind
		}
	}
	return 0
}

func (r *reader) operand() api.Expr {
	if r.fault != api.OK || r.next >= len(r.signs) {
		return r.fail()
	}
	switch s := r.signs[r.next]; s.Kind {
	case api.SNumber:
		return r.number(s.Text)
	case api.SWord:
		if lex.Name(s.Text) {
			r.next++
			return api.Expr{Kind: api.EVar, Name: s.Text}
		}
	case api.SMark:
		return r.opened(s.Text)
	}
	return r.fail()
}

func (r *reader) number(digits string) api.Expr {
	n, err := strconv.Atoi(digits)
	if err != nil {
		return r.fail()
	}
	r.next++
	return api.Expr{Kind: api.ENum, N: n}
}

// opened reads an operand that a mark stands ahead of.
func (r *reader) opened(mark string) api.Expr {
	if !opens(mark) || r.deep >= api.MaxDeep {
		return r.fail()
	}
	r.next++
	r.deep++
	var x api.Expr
	switch mark {
	case "-":
		x = api.Expr{Kind: api.ENeg, L: []api.Expr{r.operand()}}
	case "!":
		x = api.Expr{Kind: api.ENot, L: []api.Expr{r.operand()}}
	case "(":
		x = r.level(loosest)
		if r.mark() != ")" {
			return r.fail()
		}
		r.next++
	}
	r.deep--
	return x
}

// mark tells the mark that is next; "": none is, or there was a fault.
func (r *reader) mark() string {
	if r.fault != api.OK || r.next >= len(r.signs) || r.signs[r.next].Kind != api.SMark {
		return ""
	}
	return r.signs[r.next].Text
}

// fail keeps the first fault; where a sign is both too deep and out of place, it is too deep (P6).
func (r *reader) fail() api.Expr {
	switch {
	case r.fault != api.OK:
	case r.deep >= api.MaxDeep && opens(r.mark()):
		r.fault = api.Limit
	default:
		r.fault = api.BadText
	}
	return api.Expr{}
}

func opens(mark string) bool { return mark == "(" || mark == "-" || mark == "!" }
