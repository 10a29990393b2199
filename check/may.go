package check

import (
	"iter"

	"penance/api"
)

// may is what a process may do without an action.
type may struct{ end, exit bool }

// look is what is found out of a program's processes, by their numbers.
type look struct {
	b     book
	facts []may
}

// study finds out what each process may: from nothing on, as long as more follows.
func study(b book, p api.Program) look {
	k := look{b, make([]may, len(p.Procs))}
	for more := true; more; {
		more = false
		for i, d := range p.Procs {
			now := k.may(d.Body)
			more = more || now != k.facts[i]
			k.facts[i] = now
		}
	}
	return k
}

func (k look) may(p api.Proc) may {
	switch p.Kind {
	case api.TSkip, api.TSet, api.TPush, api.TAccept, api.TMerge:
		return may{end: true}
	case api.TExit:
		return may{exit: true}
	case api.TReverse:
		return may{end: true, exit: true}
	case api.TBlock:
		m := k.either(p.L)
		return may{end: m.end || m.exit}
	case api.TIf, api.TChoose:
		return k.either(p.L)
	case api.TPar:
		return k.beside(p.L)
	case api.TSeq:
		return k.behind(p.L)
	case api.TCall:
		if i, is := k.b.procs[p.Name]; is {
			return k.facts[i]
		}
	}
	return may{}
}

func (k look) either(l []api.Proc) (m may) {
	for _, p := range l {
		one := k.may(p)
		m = may{m.end || one.end, m.exit || one.exit}
	}
	return m
}

func (k look) beside(l []api.Proc) may {
	m := may{end: true}
	for _, p := range l {
		one := k.may(p)
		m = may{m.end && one.end, m.exit || one.exit}
	}
	return m
}

func (k look) behind(l []api.Proc) may {
	m := may{end: true}
	for _, p := range l {
		one := k.may(p)
		m = may{m.end && one.end, m.exit || m.end && one.exit}
	}
	return m
}

// called tells the numbers of the processes that p calls ahead of any action.
func (k look) called(p api.Proc) iter.Seq[int] {
	return func(yield func(int) bool) { k.eachCalled(p, yield) }
}

func (k look) eachCalled(p api.Proc, yield func(int) bool) bool {
	if p.Kind == api.TCall {
		i, is := k.b.procs[p.Name]
		return !is || yield(i)
	}
	for i, child := range p.L {
		if i > 0 && p.Kind == api.TSeq && !k.may(p.L[i-1]).end {
			break
		}
		if !k.eachCalled(child, yield) {
			return false
		}
	}
	return true
}

// Bare tells whether a process may end without an action.
func Bare(p api.Program, name string) bool {
	b := enter(p)
	i, is := b.procs[name]
	return is && study(b, p).facts[i].end
}

// Front tells the processes that one calls ahead of any action, in order of declaration.
func Front(p api.Program, name string) []string {
	b := enter(p)
	i, is := b.procs[name]
	if !is {
		return nil
	}
	marked := make([]bool, len(p.Procs))
	for n := range study(b, p).called(p.Procs[i].Body) {
		marked[n] = true
	}
	var l []string
	for n, d := range p.Procs {
		if marked[n] {
			l = append(l, d.Name)
		}
	}
	return l
}

// comesBack tells whether a process comes to itself ahead of any action.
func comesBack(b book, p api.Program) bool {
	k := study(b, p)
	for i := range p.Procs {
		reached := make([]bool, len(p.Procs))
		k.reach(p, i, reached)
		if reached[i] {
			return true
		}
	}
	return false
}

// reach marks all that process i comes to by one or more calls ahead of any action.
func (k look) reach(p api.Program, i int, reached []bool) {
	for n := range k.called(p.Procs[i].Body) {
		if !reached[n] {
			reached[n] = true
			k.reach(p, n, reached)
		}
	}
}
