// Package own: copies of plain data that share no list with what they are made of.
package own

import "penance/api"

// List tells a list of copies; of no items, nil.
func List[T any](l []T, one func(T) T) []T {
	if len(l) == 0 {
		return nil
	}
	out := make([]T, len(l))
	for i, x := range l {
		out[i] = one(x)
	}
	return out
}

func Numbers(l []int) []int { return List(l, same) }

func Events(l []api.Event) []api.Event { return List(l, same) }

func Expr(x api.Expr) api.Expr {
	x.L = List(x.L, Expr)
	return x
}

func Term(t api.Term) api.Term {
	t.E = Expr(t.E)
	t.L = Terms(t.L)
	return t
}

func Terms(l []api.Term) []api.Term { return List(l, Term) }

func Stacks(s [][]api.Term) [][]api.Term { return List(s, Terms) }

func Core(c api.Core) api.Core {
	c.Vars = Numbers(c.Vars)
	c.Procs = Terms(c.Procs)
	return c
}

func Config(f api.Config) api.Config {
	f.T = Term(f.T)
	f.Vars = Numbers(f.Vars)
	f.Stacks = Stacks(f.Stacks)
	return f
}

// same is for what has no list in it.
func same[T any](x T) T { return x }
