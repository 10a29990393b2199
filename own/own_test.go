package own_test

import (
	"fmt"
	"testing"

	"penance/api"
	"penance/own"
)

func config() api.Config {
	x := api.Expr{Kind: api.ENeg, L: []api.Expr{{Kind: api.ENum, N: 1}}}
	set := api.Term{Kind: api.TSet, E: x}
	return api.Config{T: api.Term{Kind: api.TBlock, L: []api.Term{set}}, Vars: []int{1, 2}, Stacks: [][]api.Term{{set, set}, nil}, Steps: 3, Key: 4}
}

func TestCopiesShareNothing(t *testing.T) {
	f := config()
	g := own.Config(f)
	if fmt.Sprint(f) != fmt.Sprint(g) {
		t.Fatalf("%v is not %v", g, f)
	}
	f.T.L[0].E.L[0].N = 9
	f.Vars[0] = 9
	f.Stacks[0][1].E.L[0].N = 9
	f.Stacks[1] = []api.Term{{}}
	if fmt.Sprint(g) != fmt.Sprint(config()) {
		t.Errorf("%v shares memory", g)
	}
	c := api.Core{Vars: []int{1}, Procs: []api.Term{config().T}}
	d := own.Core(c)
	c.Vars[0] = 9
	c.Procs[0].L[0].E.L[0].N = 9
	if d.Vars[0] != 1 || d.Procs[0].L[0].E.L[0].N != 1 {
		t.Errorf("%v shares memory", d)
	}
	l := []api.Event{{Name: "a"}}
	m := own.Events(l)
	l[0].Name = "b"
	if m[0].Name != "a" || own.Events(nil) != nil || own.Numbers([]int{}) != nil {
		t.Errorf("%v shares memory", m)
	}
}
