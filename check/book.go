package check

import (
	"iter"

	"penance/api"
	"penance/expr"
)

// book tells what is declared: each name's number.
type book struct {
	vars, stacks, procs map[string]int
}

// enter numbers what a program declares; of what is declared twice the first one counts.
func enter(p api.Program) book {
	b := book{map[string]int{}, map[string]int{}, map[string]int{}}
	for i, v := range p.Vars {
		number(b.vars, v.Name, i)
	}
	for i, s := range p.Stacks {
		number(b.stacks, s, i)
	}
	for i, d := range p.Procs {
		number(b.procs, d.Name, i)
	}
	return b
}

func number(m map[string]int, name string, n int) {
	if _, is := m[name]; !is {
		m[name] = n
	}
}

// knowsAll tells whether each name of each process is declared as what it must be.
func (b book) knowsAll(p api.Program) bool {
	for _, d := range p.Procs {
		for q := range parts(d.Body) {
			if !b.knows(q) {
				return false
			}
		}
	}
	return true
}

// parts tells a process and all that is in it.
func parts(p api.Proc) iter.Seq[api.Proc] {
	return func(yield func(api.Proc) bool) { eachPart(p, yield) }
}

func eachPart(p api.Proc, yield func(api.Proc) bool) bool {
	if !yield(p) {
		return false
	}
	for _, child := range p.L {
		if !eachPart(child, yield) {
			return false
		}
	}
	return true
}

// knows tells whether a process's own names are declared.
func (b book) knows(p api.Proc) bool {
	switch p.Kind {
	case api.TDo:
		return p.To == "" || holds(b.vars, p.To)
	case api.TSet:
		return holds(b.vars, p.To) && holds(b.vars, expr.Names(p.E)...)
	case api.TIf:
		return holds(b.vars, expr.Names(p.E)...)
	case api.TPush, api.TReverse, api.TAccept:
		return holds(b.stacks, p.Name)
	case api.TMerge:
		return holds(b.stacks, p.Name, p.To)
	case api.TCall:
		return holds(b.procs, p.Name)
	}
	return true
}

func holds(m map[string]int, names ...string) bool {
	for _, n := range names {
		if _, is := m[n]; !is {
			return false
		}
	}
	return true
}

// term tells a process, all names of which are known, by numbers.
func (b book) term(p api.Proc) api.Term {
	t := api.Term{Kind: p.Kind}
	switch p.Kind {
	case api.TDo:
		t.Name, t.A = p.Name, -1
		if p.To != "" {
			t.A = b.vars[p.To]
		}
	case api.TSet:
		t.A, t.E = b.vars[p.To], b.expression(p.E)
	case api.TIf:
		t.E = b.expression(p.E)
	case api.TPush, api.TReverse, api.TAccept:
		t.A = b.stacks[p.Name]
	case api.TMerge:
		t.A, t.B = b.stacks[p.Name], b.stacks[p.To]
	case api.TCall:
		t.A = b.procs[p.Name]
	}
	for _, child := range p.L {
		t.L = append(t.L, b.term(child))
	}
	return t
}

func (b book) expression(x api.Expr) api.Expr {
	y := api.Expr{Kind: x.Kind, N: x.N}
	if x.Kind == api.EVar {
		y.N = b.vars[x.Name]
	}
	for _, child := range x.L {
		y.L = append(y.L, b.expression(child))
	}
	return y
}
