package orch

import (
	"iter"

	"penance/api"
	"penance/code"
	"penance/pack"
)

// instance is one process that goes on.
type instance struct {
	core   api.Core
	config api.Config
	fault  api.Errno
	events []api.Event
}

// record tells an instance as bytes.
func (one instance) record(id int) []byte {
	b := pack.Number(nil, id)
	b = pack.Number(b, int(one.fault))
	b = pack.Text(b, code.Core(one.core))
	b = pack.List(b, one.events, func(b []byte, e api.Event) []byte {
		b = pack.Text(b, e.Name)
		b = pack.Number(b, e.Key)
		return pack.Number(b, e.Value)
	})
	return pack.Text(b, code.Config(one.config))
}

// read tells the instance that a record is.
func read(b []byte) (one instance) {
	r := pack.Read(b)
	r.Number()
	one.fault = api.Errno(r.Number())
	one.core, _ = code.ReadCore(r.Bytes())
	for range r.Items() {
		e := api.Event{Name: r.Text()}
		e.Key = r.Number()
		e.Value = r.Number()
		one.events = append(one.events, e)
	}
	one.config, _ = code.ReadConfig(one.core, r.Bytes())
	return one
}

// recall tells all instances as their last records say.
func recall(records [][]byte) []instance {
	var last [][]byte
	for _, b := range records {
		last = keep(last, pack.Read(b).Number(), b)
	}
	var l []instance
	for _, b := range last {
		l = append(l, read(b))
	}
	return l
}

// keep puts x in place of number at, or behind all, if that is the next one.
func keep[T any](l []T, at int, x T) []T {
	if at == len(l) {
		return append(l, x)
	}
	l[at] = x
	return l
}

// waiting tells the TWaits that are active in t, from left to right.
func waiting(t api.Term) iter.Seq[api.Term] {
	return func(yield func(api.Term) bool) {
		rest := []api.Term{t}
	walk:
		for len(rest) > 0 {
			p := rest[len(rest)-1]
			rest = rest[:len(rest)-1]
			switch p.Kind {
			case api.TSeq, api.TBlock:
				rest = append(rest, p.L[0])
			case api.TPar:
				rest = append(rest, p.L[1], p.L[0])
			case api.TWait:
				if !yield(p) {
					break walk
				}
			}
		}
	}
}
