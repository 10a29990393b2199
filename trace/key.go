package trace

import (
	"strconv"

	"penance/api"
)

// key tells a state as a text: of two states the same one, if they are the same.
func key(s state) string {
	var k writer
	k.numbers(s.happened, len(s.f.Vars))
	k.numbers(s.f.Vars...)
	k.term(s.f.T)
	for _, stack := range s.f.Stacks {
		k.numbers(len(stack))
		for _, t := range stack {
			k.term(t)
		}
	}
	return string(k)
}

type writer []byte

func (k *writer) numbers(l ...int) {
	for _, n := range l {
		*k = append(strconv.AppendInt(*k, int64(n), 10), ' ')
	}
}

func (k *writer) text(s string) {
	k.numbers(len(s))
	*k = append(*k, s...)
}

func (k *writer) term(t api.Term) {
	k.numbers(t.Kind, t.A, t.B)
	k.text(t.Name)
	k.expr(t.E)
	k.numbers(len(t.L))
	for _, child := range t.L {
		k.term(child)
	}
}

func (k *writer) expr(x api.Expr) {
	k.numbers(x.Kind, x.N)
	k.text(x.Name)
	k.numbers(len(x.L))
	for _, child := range x.L {
		k.expr(child)
	}
}
