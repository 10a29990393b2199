package pack_test

import (
	"bytes"
	"math"
	"testing"

	"penance/pack"
)

func TestNumbers(t *testing.T) {
	for n, want := range map[int][]byte{
		0: {0, 0, 0, 0, 0, 0, 0, 0}, 1: {0, 0, 0, 0, 0, 0, 0, 1}, 258: {0, 0, 0, 0, 0, 0, 1, 2}, -1: {255, 255, 255, 255, 255, 255, 255, 255}, -2: {255, 255, 255, 255, 255, 255, 255, 254},
		math.MaxInt: {127, 255, 255, 255, 255, 255, 255, 255}, math.MinInt: {128, 0, 0, 0, 0, 0, 0, 0}, 0x0102030405060708: {1, 2, 3, 4, 5, 6, 7, 8},
	} {
		b := pack.Number([]byte{9}, n)
		if !bytes.Equal(b, append([]byte{9}, want...)) {
			t.Errorf("W5: %d: %v", n, b)
		}
		r := pack.Read(b[1:])
		if got := r.Number(); got != n || !r.Whole() {
			t.Errorf("W5: %v: %d", b, got)
		}
	}
}

func TestLists(t *testing.T) {
	b := pack.List(nil, []int{5, -1}, pack.Number)
	b = pack.Text(b, "ab")
	b = pack.Text(b, []byte{7})
	r := pack.Read(b)
	var l []int
	for i := range r.Items() {
		l = append(l, i, r.Number())
	}
	if len(b) != 24+10+9 || len(l) != 4 || l[1] != 5 || l[3] != -1 || r.Text() != "ab" || r.Whole() || r.Text() != "\x07" || !r.Whole() {
		t.Errorf("%v, %v", b, l)
	}
}

func TestWrongBytes(t *testing.T) {
	for i, b := range [][]byte{nil, make([]byte, 7), pack.Number(nil, -1), pack.Number(nil, 1), pack.Number(nil, math.MaxInt), append(pack.Number(nil, 3), 1, 2)} {
		r := pack.Read(b)
		if r.Text() != "" || r.Whole() {
			t.Errorf("%d: a text", i)
		}
		r = pack.Read(b)
		for range r.Items() {
			if r.Number() != 0 {
				t.Errorf("%d: a number", i)
			}
		}
		if r.Whole() {
			t.Errorf("%d: a list", i)
		}
	}
	r := pack.Read(pack.Number(nil, 0))
	r.Number()
	if !r.Whole() {
		t.Error("all is read")
	}
	if r.Fail(); r.Whole() || r.Number() != 0 || r.Text() != "" {
		t.Error("behind a fault")
	}
}
