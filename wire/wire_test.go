package wire_test

import (
	"fmt"
	"math"
	"math/rand"
	"slices"
	"strings"
	"testing"

	"penance/api"
	"penance/wire"
)

func event(name string, key, value int) api.Event {
	return api.Event{Name: name, Key: key, Value: value}
}

// flight tells all messages in short: a request as a7, what is told as a7=3.
func flight(w *wire.Wire) string {
	var l []string
	for _, m := range w.Flight() {
		s := fmt.Sprint(m.Event.Name, m.Event.Key)
		if m.Back {
			s += fmt.Sprint("=", m.Event.Value)
		} else if m.Event.Value != 0 {
			s += "!"
		}
		l = append(l, s)
	}
	return strings.Join(l, " ")
}

func state(w *wire.Wire) string {
	return fmt.Sprint(flight(w), "; ", w.Applied(), "; ", w.Open())
}

func TestP1201New(t *testing.T) {
	for _, values := range [][]int{nil, {}, {1, 2}} {
		w := wire.New(values)
		if len(w.Flight()) != 0 || len(w.Applied()) != 0 || len(w.Open()) != 0 {
			t.Errorf("P1201: %s", state(w))
		}
		w.Tick()
		w.Forget(0)
		w.Crash()
		if state(w) != "; []; []" {
			t.Errorf("P1201: %s", state(w))
		}
	}
}

func TestP1201Ask(t *testing.T) {
	w := wire.New(nil)
	w.Ask(event("b", 5, 77))
	w.Ask(event("a", -3, 0))
	w.Ask(event("c", 5, 0)) // it is open
	w.Ask(event("b", 9, 1))
	if got := state(w); got != "b5 a-3 b9; []; [-3 5 9]" {
		t.Errorf("P1201: %s", got)
	}
	w.Forget(5)
	w.Forget(6)
	if got := state(w); got != "b5 a-3 b9; []; [-3 9]" {
		t.Errorf("P1201: %s", got)
	}
	w.Ask(event("d", 5, 0))
	if got := state(w); got != "b5 a-3 b9 d5; []; [-3 5 9]" {
		t.Errorf("P1201: %s", got)
	}
	w.Tick() // asked again by the name of the last time
	if got := state(w); got != "b5 a-3 b9 d5 a-3 d5 b9; []; [-3 5 9]" {
		t.Errorf("P1201: %s", got)
	}
	w.Crash()
	if got := state(w); got != "b5 a-3 b9 d5 a-3 d5 b9; []; []" {
		t.Errorf("P1201: %s", got)
	}
	w.Tick()
	w.Tick()
	if got := state(w); got != "b5 a-3 b9 d5 a-3 d5 b9; []; []" {
		t.Errorf("P1201: %s", got)
	}
}

// Asked at 3: again at 4, 6, 10, 18, 26, 34: 1, 2, 4, 8, 8, 8 later.
func TestP1201Waits(t *testing.T) {
	w := wire.New(nil)
	for range 3 {
		w.Tick()
	}
	w.Ask(event("a", 1, 0))
	for clock := 4; clock <= 50; clock++ {
		n := len(w.Flight())
		w.Tick()
		want := 0
		if slices.Contains([]int{4, 6, 10, 18, 26, 34, 42, 50}, clock) {
			want = 1
		}
		if got := len(w.Flight()) - n; got != want {
			t.Errorf("P1201: at %d: %d", clock, got)
		}
	}
	// Asked anew its wait is short again.
	w.Forget(1)
	w.Ask(event("a", 1, 0))
	n := len(w.Flight())
	for i, want := range []int{1, 1, 2, 2, 2, 2, 3} {
		w.Tick()
		if got := len(w.Flight()) - n; got != want {
			t.Errorf("P1201: %d behind: %d; want %d", i+1, got, want)
		}
	}
}

func TestP1201TickRising(t *testing.T) {
	w := wire.New(nil)
	w.Ask(event("c", 30, 0))
	w.Tick() // c30 again at 3
	w.Tick()
	w.Ask(event("b", 20, 0)) // at 3
	w.Ask(event("d", 40, 0)) // at 3
	w.Ask(event("a", -1, 0)) // at 3
	w.Tick()
	if got := flight(w); got != "c30 c30 b20 d40 a-1 a-1 b20 c30 d40" {
		t.Errorf("P1201: %s", got)
	}
}

func TestP1202Deliver(t *testing.T) {
	w := wire.New([]int{7, -8})
	w.Ask(event("a", 1, 0))
	w.Ask(event("b", 2, 0))
	w.Ask(event("c", 3, 0))
	for i, x := range []struct {
		at   int
		want string
	}{
		{1, "a1 c3 b2=7; [{b 2 7}]; [1 2 3]"},
		{0, "c3 b2=7 a1=-8; [{b 2 7} {a 1 -8}]; [1 2 3]"},
		{0, "b2=7 a1=-8 c3=0; [{b 2 7} {a 1 -8} {c 3 0}]; [1 2 3]"},
	} {
		if told, is := w.Deliver(x.at); is || told != (api.Event{}) || state(w) != x.want {
			t.Errorf("P1202: %d: %v, %v, %s", i, told, is, state(w))
		}
	}
	if told, is := w.Deliver(1); !is || told != event("a", 1, -8) || state(w) != "b2=7 c3=0; [{b 2 7} {a 1 -8} {c 3 0}]; [2 3]" {
		t.Errorf("P1202: %v, %v, %s", told, is, state(w))
	}
	w.Twice(0)
	if told, is := w.Deliver(2); !is || told != event("b", 2, 7) {
		t.Errorf("P1202: %v, %v, %s", told, is, state(w))
	}
	if told, is := w.Deliver(0); is || told != (api.Event{}) || state(w) != "c3=0; [{b 2 7} {a 1 -8} {c 3 0}]; [3]" {
		t.Errorf("P1202: what isn't open: %v, %v, %s", told, is, state(w))
	}
	w.Crash()
	if told, is := w.Deliver(0); is || told != (api.Event{}) || state(w) != "; [{b 2 7} {a 1 -8} {c 3 0}]; []" {
		t.Errorf("P1202: behind a crash: %v, %v, %s", told, is, state(w))
	}
}

func TestP1202AppliedOnce(t *testing.T) {
	w := wire.New([]int{7, 8})
	w.Ask(event("a", 1, 0))
	w.Twice(0)
	w.Deliver(0)
	w.Deliver(0)
	if got := state(w); got != "a1=7 a1=7; [{a 1 7}]; [1]" {
		t.Errorf("P1202: %s", got)
	}
	w.Forget(1)
	w.Ask(event("z", 1, 0)) // the key counts, not the name
	w.Deliver(2)
	if got := state(w); got != "a1=7 a1=7 z1=7; [{a 1 7}]; [1]" {
		t.Errorf("P1202: %s", got)
	}
	w.Ask(event("b", 2, 0))
	w.Deliver(3)
	if got := state(w); got != "a1=7 a1=7 z1=7 b2=8; [{a 1 7} {b 2 8}]; [1 2]" {
		t.Errorf("P1202: %s", got)
	}
	if told, is := w.Deliver(2); !is || told != event("z", 1, 7) {
		t.Errorf("P1202: %v, %v", told, is)
	}
	// A value that is 0 is a value.
	w = wire.New([]int{0, 5})
	w.Ask(event("a", 1, 0))
	w.Twice(0)
	w.Deliver(0)
	w.Deliver(0)
	if got := state(w); got != "a1=0 a1=0; [{a 1 0}]; [1]" {
		t.Errorf("P1202: %s", got)
	}
}

func TestP1202DropAndTwice(t *testing.T) {
	w := wire.New(nil)
	for i, name := range []string{"a", "b", "c"} {
		w.Ask(event(name, i, 0))
	}
	for _, at := range []int{-1, 3, math.MinInt, math.MaxInt} {
		if told, is := w.Deliver(at); is || told != (api.Event{}) || w.Drop(at) || w.Twice(at) || flight(w) != "a0 b1 c2" {
			t.Errorf("P1202: at %d: %s", at, flight(w))
		}
	}
	if !w.Drop(1) || flight(w) != "a0 c2" || !w.Twice(0) || flight(w) != "a0 c2 a0" || !w.Twice(2) || flight(w) != "a0 c2 a0 a0" || !w.Drop(0) || flight(w) != "c2 a0 a0" || !w.Drop(2) || flight(w) != "c2 a0" {
		t.Errorf("P1202: %s", flight(w))
	}
	if got := fmt.Sprint(w.Open()); got != "[0 1 2]" {
		t.Errorf("P1202: what is dropped is open still: %s", got)
	}
	w.Deliver(0)
	if !w.Twice(1) || flight(w) != "a0 c2=0 c2=0" {
		t.Errorf("P1202: %s", flight(w))
	}
	w = wire.New(nil)
	if told, is := w.Deliver(0); is || told != (api.Event{}) || w.Drop(0) || w.Twice(0) {
		t.Error("P1202: of a new one")
	}
}

// model is a wire by its words.
type model struct {
	values     []int
	clock      int
	name       map[int]string
	time, wait map[int]int
	flight     []wire.Message
	applied    []api.Event
}

func (m *model) keys() (l []int) {
	for k := range m.name {
		l = append(l, k)
	}
	slices.Sort(l)
	return l
}

func (m *model) fly(back bool, e api.Event) {
	m.flight = append(m.flight, wire.Message{Back: back, Event: e})
}

func (m *model) ask(name string, key int) {
	if _, is := m.name[key]; !is {
		m.name[key], m.time[key], m.wait[key] = name, m.clock+1, 1
		m.fly(false, event(name, key, 0))
	}
}

func (m *model) tick() {
	m.clock++
	for _, k := range m.keys() {
		if m.time[k] == m.clock {
			m.fly(false, event(m.name[k], k, 0))
			m.wait[k] = min(8, m.wait[k]*2)
			m.time[k] += m.wait[k]
		}
	}
}

func (m *model) deliver(at int) (api.Event, bool) {
	if at < 0 || at >= len(m.flight) {
		return api.Event{}, false
	}
	one := m.flight[at]
	m.flight = append(append([]wire.Message(nil), m.flight[:at]...), m.flight[at+1:]...)
	if one.Back {
		_, is := m.name[one.Event.Key]
		delete(m.name, one.Event.Key)
		if !is {
			return api.Event{}, false
		}
		return one.Event, true
	}
	i := slices.IndexFunc(m.applied, func(e api.Event) bool { return e.Key == one.Event.Key })
	if i < 0 {
		i = len(m.applied)
		v := 0
		if i < len(m.values) {
			v = m.values[i]
		}
		m.applied = append(m.applied, event(one.Event.Name, one.Event.Key, v))
	}
	m.fly(true, event(one.Event.Name, one.Event.Key, m.applied[i].Value))
	return api.Event{}, false
}

func (m *model) state() string { return fmt.Sprint(m.flight, m.applied, m.keys()) }

func TestP1203Random(t *testing.T) {
	r := rand.New(rand.NewSource(32))
	for range 1000 {
		values := make([]int, r.Intn(6))
		for i := range values {
			values[i] = r.Intn(20) - 10
		}
		w := wire.New(values)
		m := &model{values: slices.Clone(values), name: map[int]string{}, time: map[int]int{}, wait: map[int]int{}}
		for i := range values {
			values[i] = 99 // not kept
		}
		told := map[int]int{}
		for range 80 {
			at, key, name := r.Intn(len(m.flight)+2)-1, r.Intn(8)-2, string(rune('a'+r.Intn(3)))
			switch r.Intn(9) {
			case 0, 1:
				w.Ask(event(name, key, r.Intn(3)))
				m.ask(name, key)
			case 2:
				w.Tick()
				m.tick()
			case 3:
				if is := at >= 0 && at < len(m.flight); w.Drop(at) != is {
					t.Fatalf("P1202: Drop of %d", at)
				} else if is {
					m.flight = append(append([]wire.Message(nil), m.flight[:at]...), m.flight[at+1:]...)
				}
			case 4:
				if is := at >= 0 && at < len(m.flight); w.Twice(at) != is {
					t.Fatalf("P1202: Twice of %d", at)
				} else if is {
					m.flight = append(m.flight, m.flight[at])
				}
			case 5:
				if r.Intn(5) == 0 {
					w.Crash()
					clear(m.name)
				} else {
					w.Forget(key)
					delete(m.name, key)
				}
			default:
				got, is := w.Deliver(at)
				want, wanted := m.deliver(at)
				if got != want || is != wanted {
					t.Fatalf("P1202: Deliver of %d: %v, %v; want %v, %v", at, got, is, want, wanted)
				}
				if v, before := told[got.Key]; is && before && v != got.Value {
					t.Fatalf("P1203: key %d told %d, and %d", got.Key, v, got.Value)
				} else if is {
					told[got.Key] = got.Value
				}
			}
			if got := fmt.Sprint(w.Flight(), w.Applied(), w.Open()); got != m.state() {
				t.Fatalf("P1201: %s; want %s", got, m.state())
			}
		}
		once := map[int]bool{}
		for _, e := range w.Applied() {
			if once[e.Key] {
				t.Fatalf("P1203: key %d is applied twice", e.Key)
			}
			once[e.Key] = true
		}
	}
}

func TestP2AnswersAreNew(t *testing.T) {
	w := wire.New([]int{4})
	w.Ask(event("a", 1, 0))
	w.Ask(event("b", 2, 0))
	w.Deliver(0)
	was := state(w)
	f, a, o := w.Flight(), w.Applied(), w.Open()
	for i := range f[:cap(f)] {
		f[:cap(f)][i] = wire.Message{Back: true}
	}
	for i := range a[:cap(a)] {
		a[:cap(a)][i] = api.Event{}
	}
	for i := range o[:cap(o)] {
		o[:cap(o)][i] = 9
	}
	if state(w) != was {
		t.Errorf("P2: %s; was %s", state(w), was)
	}
	w.Ask(event("c", 3, 0))
	if f[0].Event.Name != "" {
		t.Error("P2: an answer is changed later")
	}
}

func TestP7SideBySide(t *testing.T) {
	values := []int{1, 2}
	a, b := wire.New(values), wire.New(values)
	a.Ask(event("a", 1, 0))
	a.Deliver(0)
	if state(b) != "; []; []" {
		t.Errorf("P7: %s", state(b))
	}
	b.Ask(event("b", 1, 0))
	b.Deliver(0)
	if state(b) != "b1=1; [{b 1 1}]; [1]" || state(a) != "a1=1; [{a 1 1}]; [1]" {
		t.Errorf("P7: %s, %s", state(a), state(b))
	}
}
