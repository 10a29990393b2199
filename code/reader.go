package code

import (
	"penance/api"
	"penance/pack"
)

// What hangs on one another deeper than this is refused.
const maxDeep = 4000

type reader struct{ *pack.Reader }

func (r reader) core() (c api.Core) {
	c.Vars = r.numbers()
	c.Stacks = r.Number()
	for range r.Items() {
		c.Procs = append(c.Procs, r.process(0))
	}
	c.Main = r.Number()
	return c
}

func (r reader) config() (f api.Config) {
	f.T = r.process(0)
	f.Vars = r.numbers()
	for range r.Items() {
		var stack []api.Term
		for range r.Items() {
			stack = append(stack, r.process(0))
		}
		f.Stacks = append(f.Stacks, stack)
	}
	f.Steps = r.Number()
	f.Key = r.Number()
	return f
}

func (r reader) numbers() (l []int) {
	for range r.Items() {
		l = append(l, r.Number())
	}
	return l
}

func (r reader) process(deep int) (t api.Term) {
	if deep > maxDeep {
		r.Fail()
		return t
	}
	t.Kind = r.Number()
	t.A = r.Number()
	t.B = r.Number()
	t.Name = r.Text()
	if reckons(t.Kind) {
		t.E = r.expression(deep)
	}
	for range r.Items() {
		t.L = append(t.L, r.process(deep+1))
	}
	return t
}

func (r reader) expression(deep int) (x api.Expr) {
	if deep > maxDeep {
		r.Fail()
		return x
	}
	x.Kind = r.Number()
	x.N = r.Number()
	for range r.Items() {
		x.L = append(x.L, r.expression(deep+1))
	}
	return x
}
