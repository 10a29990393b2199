package text

import (
	"strconv"

	"penance/api"
	"penance/expr"
	"penance/lex"
)

// reader reads signs; behind its first fault it reads no more.
type reader struct {
	signs []api.Sign
	next  int
	end   int // the text's length: where a sign that is not there is missing
	deep  int // how many `{` are not at their end
	at    int
	fault api.Errno
}

// Parse tells a text's program; of an error, its place.
func Parse(s string) (p api.Program, at int, e api.Errno) {
	signs, at, e := lex.Signs(s)
	if e != api.OK {
		return api.Program{}, at, e
	}
	r := reader{signs: signs, end: len(s)}
	p = r.program()
	if r.fault != api.OK {
		return api.Program{}, r.at, r.fault
	}
	return p, 0, api.OK
}

func (r *reader) program() (p api.Program) {
declare:
	for r.next < len(r.signs) {
		switch {
		case r.take("var"):
			p.Vars = append(p.Vars, api.Var{Name: r.name(), Value: r.value()})
		case r.take("stack"):
			p.Stacks = append(p.Stacks, r.name())
		case r.take("proc"):
			p.Procs = append(p.Procs, api.Def{Name: r.name(), Body: r.body()})
		default:
			r.fail()
			break declare
		}
	}
	return p
}

// value reads a number that `-` may stand ahead of.
func (r *reader) value() int {
	below := r.take("-")
	if r.kind() != api.SNumber {
		r.fail()
		return 0
	}
	n, _ := strconv.Atoi(r.signs[r.next].Text) // lex lets through no digits that are no int
	r.next++
	if below {
		return -n
	}
	return n
}

// body reads a process in `{ }`.
func (r *reader) body() api.Proc {
	if r.deep >= api.MaxDeep || !r.take("{") {
		r.fail()
		return api.Proc{}
	}
	r.deep++
	p := r.row()
	r.must("}")
	r.deep--
	return p
}

// row reads processes with `;` between.
func (r *reader) row() api.Proc {
	p := r.single()
	if !r.take(";") {
		return p
	}
	return api.Proc{Kind: api.TSeq, L: []api.Proc{p, r.row()}}
}

func (r *reader) single() api.Proc {
	switch {
	case r.see("{"):
		return r.body()
	case r.take("skip"):
		return api.Proc{Kind: api.TSkip}
	case r.take("exit"):
		return api.Proc{Kind: api.TExit}
	case r.take("do"):
		return r.do()
	case r.take("push"):
		return api.Proc{Kind: api.TPush, Name: r.name(), L: r.bodies(1)}
	case r.take("reverse"):
		return api.Proc{Kind: api.TReverse, Name: r.name()}
	case r.take("accept"):
		return api.Proc{Kind: api.TAccept, Name: r.name()}
	case r.take("merge"):
		return api.Proc{Kind: api.TMerge, Name: r.name(), To: r.name()}
	case r.take("block"):
		return api.Proc{Kind: api.TBlock, L: r.bodies(1)}
	case r.take("if"):
		return r.branch()
	case r.take("choose"):
		return api.Proc{Kind: api.TChoose, L: r.bodies(2)}
	case r.take("par"):
		return api.Proc{Kind: api.TPar, L: r.bodies(2)}
	case r.take("call"):
		return api.Proc{Kind: api.TCall, Name: r.name()}
	}
	return r.set()
}

func (r *reader) do() api.Proc {
	p := api.Proc{Kind: api.TDo, Name: r.name()}
	if r.take("->") {
		p.To = r.name()
	}
	return p
}

func (r *reader) set() api.Proc {
	p := api.Proc{Kind: api.TSet, To: r.name()}
	r.must(":=")
	p.E = r.expression()
	return p
}

func (r *reader) branch() api.Proc {
	p := api.Proc{Kind: api.TIf, E: r.expression(), L: r.bodies(1)}
	r.must("else")
	p.L = append(p.L, r.body())
	return p
}

func (r *reader) bodies(n int) []api.Proc {
	l := make([]api.Proc, n)
	for i := range l {
		l[i] = r.body()
	}
	return l
}

func (r *reader) expression() api.Expr {
	if r.fault != api.OK {
		return api.Expr{}
	}
	x, used, e := expr.Parse(r.signs[r.next:])
	r.next += used
	if e == api.BadText {
		r.fail()
	} else if e != api.OK {
		r.stop(e)
	}
	return x
}

func (r *reader) name() string {
	if r.kind() != api.SWord || !lex.Name(r.signs[r.next].Text) {
		r.fail()
		return ""
	}
	r.next++
	return r.signs[r.next-1].Text
}

// must reads a sign that is asked for where it stands.
func (r *reader) must(text string) {
	if !r.take(text) {
		r.fail()
	}
}

// take reads a sign if it is the next one.
func (r *reader) take(text string) bool {
	if !r.see(text) {
		return false
	}
	r.next++
	return true
}

func (r *reader) see(text string) bool {
	return r.kind() != 0 && r.signs[r.next].Text == text
}

// kind tells the next sign's kind; 0: there is none, or there was a fault.
func (r *reader) kind() int {
	if r.fault != api.OK || r.next >= len(r.signs) {
		return 0
	}
	return r.signs[r.next].Kind
}

// fail tells that the next sign can't stand there; where it is too deep as well, that goes first (P6).
func (r *reader) fail() {
	if r.deep >= api.MaxDeep && r.see("{") {
		r.stop(api.Limit)
		return
	}
	r.stop(api.BadText)
}

// stop keeps the first fault, at the next sign.
func (r *reader) stop(e api.Errno) {
	if r.fault != api.OK {
		return
	}
	r.fault, r.at = e, r.end
	if r.next < len(r.signs) {
		r.at = r.signs[r.next].At
	}
}
