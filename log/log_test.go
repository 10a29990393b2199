package log_test

import (
	"bytes"
	"fmt"
	"math"
	"math/rand"
	"testing"

	"penance/log"
)

func text(l *log.Log) string { return fmt.Sprintf("%q %d %d", l.Records(), l.Len(), l.Sure()) }

func (m model) text() string { return fmt.Sprintf("%q %d %d", m.records, m.len(), m.sure) }

func TestP1101New(t *testing.T) {
	for _, limit := range []int{0, 1, 100, math.MaxInt} {
		l := log.New(limit)
		if l.Len() != 0 || l.Sure() != 0 || len(l.Records()) != 0 {
			t.Errorf("P1101: %s", text(l))
		}
		l.Sync()
		if c := l.Crash(5); l.Len() != 0 || c.Len() != 0 || len(c.Records()) != 0 {
			t.Errorf("P1101: %s", text(l))
		}
	}
}

func TestP1101Append(t *testing.T) {
	for _, x := range []struct {
		limit, n int
		want     bool
	}{{0, 0, false}, {3, 0, false}, {4, 0, true}, {4, 1, false}, {5, 1, true}, {103, 100, false}, {104, 100, true}, {math.MaxInt, 1000, true}} {
		l := log.New(x.limit)
		if l.Append(make([]byte, x.n)) != x.want {
			t.Errorf("P1101: %d of %d is not %v", x.n, x.limit, x.want)
		}
		if want := x.n + 4; x.want && (l.Len() != want || len(l.Records()) != 1 || len(l.Records()[0]) != x.n) || !x.want && l.Len() != 0 || l.Sure() != 0 {
			t.Errorf("P1101: %d of %d: %s", x.n, x.limit, text(l))
		}
	}
	l := log.New(20)
	if !l.Append([]byte("abc")) || l.Len() != 7 || !l.Append(nil) || l.Len() != 11 || !l.Append([]byte("defgh")) || l.Len() != 20 || l.Append(nil) || l.Append([]byte("x")) || l.Len() != 20 {
		t.Errorf("P1101: %s", text(l))
	}
	if got := fmt.Sprintf("%q", l.Records()); got != `["abc" "" "defgh"]` {
		t.Errorf("P1101: %s", got)
	}
	l = log.New(math.MaxInt)
	for _, n := range []int{255, 256, 65535, 65536, 1 << 20} {
		if b := bytes.Repeat([]byte{7}, n); !l.Append(b) || !bytes.Equal(l.Records()[len(l.Records())-1], b) {
			t.Errorf("P1101: a record of %d", n)
		}
	}
}

func TestP1101Sync(t *testing.T) {
	l := log.New(100)
	l.Append([]byte("ab"))
	if l.Sure() != 0 || l.Len() != 6 {
		t.Errorf("P1101: %s", text(l))
	}
	l.Sync()
	if l.Sure() != 6 {
		t.Errorf("P1101: %s", text(l))
	}
	l.Append([]byte("c"))
	if l.Sure() != 6 || l.Len() != 11 {
		t.Errorf("P1101: %s", text(l))
	}
	l.Sync()
	l.Sync()
	if l.Sure() != 11 {
		t.Errorf("P1101: %s", text(l))
	}
}

func TestP1101Crash(t *testing.T) {
	l := log.New(40)
	l.Append([]byte("ab"))
	l.Sync()
	l.Append([]byte("cde")) // 7 bytes
	l.Append(nil)           // 4
	l.Append([]byte("f"))   // 5
	was := text(l)
	for keep, want := range map[int]string{
		math.MinInt: `["ab"] 6 6`, -1: `["ab"] 6 6`, 0: `["ab"] 6 6`, 1: `["ab"] 6 6`, 4: `["ab"] 6 6`, 6: `["ab"] 6 6`, 7: `["ab" "cde"] 13 13`, 10: `["ab" "cde"] 13 13`, 11: `["ab" "cde" ""] 17 17`, 15: `["ab" "cde" ""] 17 17`, 16: `["ab" "cde" "" "f"] 22 22`, 17: `["ab" "cde" "" "f"] 22 22`, math.MaxInt: `["ab" "cde" "" "f"] 22 22`, math.MaxInt - 5: `["ab" "cde" "" "f"] 22 22`,
	} {
		c := l.Crash(keep)
		if text(c) != want {
			t.Errorf("P1101: keep %d: %s; want %s", keep, text(c), want)
		}
		// Of the same limit.
		room := 40 - c.Len() - 4
		if c.Append(make([]byte, room+1)) || !c.Append(make([]byte, room)) {
			t.Errorf("P1101: keep %d: another limit", keep)
		}
		if text(l) != was {
			t.Errorf("P1101: keep %d: it doesn't stay: %s", keep, text(l))
		}
	}
}

func TestP1101Compact(t *testing.T) {
	l := log.New(20)
	l.Append([]byte("abcd"))
	l.Sync()
	l.Append([]byte("efgh"))
	was := text(l)
	for _, records := range [][][]byte{{make([]byte, 17)}, {nil, nil, nil, nil, nil, nil}, {make([]byte, 6), make([]byte, 7)}, {make([]byte, 10), make([]byte, 10)}} {
		if l.Compact(records) || text(l) != was {
			t.Errorf("P1101: %v: %s", records, text(l))
		}
	}
	for _, x := range []struct {
		records [][]byte
		want    string
	}{
		{[][]byte{[]byte("x"), nil, []byte("yz")}, `["x" "" "yz"] 15 15`}, {[][]byte{make([]byte, 16)}, `["\x00\x00\x00\x00\x00\x00\x00\x00\x00\x00\x00\x00\x00\x00\x00\x00"] 20 20`}, {[][]byte{nil, nil, nil, nil, nil}, `["" "" "" "" ""] 20 20`}, {nil, `[] 0 0`}, {[][]byte{[]byte("q")}, `["q"] 5 5`},
	} {
		if !l.Compact(x.records) || text(l) != x.want {
			t.Errorf("P1101: %s; want %s", text(l), x.want)
		}
		if got := text(l.Crash(0)); got != x.want {
			t.Errorf("P1101: %s; want %s", got, x.want)
		}
	}
	if !l.Append([]byte("r")) || text(l) != `["q" "r"] 10 5` || l.Append(make([]byte, 7)) || !l.Append(make([]byte, 6)) {
		t.Errorf("P1101: %s", text(l))
	}
}

// model is a log by its words.
type model struct {
	limit   int
	records []string
	sure    int
}

func (m model) len() (n int) {
	for _, r := range m.records {
		n += len(r) + 4
	}
	return n
}

func (m model) crash(keep int) model {
	bytes := m.sure
	if keep > 0 {
		bytes += keep
	}
	c := model{limit: m.limit}
	for _, r := range m.records {
		if c.len()+len(r)+4 > bytes {
			break
		}
		c.records = append(c.records, r)
	}
	c.sure = c.len()
	return c
}

func TestP1102Random(t *testing.T) {
	r := rand.New(rand.NewSource(31))
	record := func() []byte {
		b := make([]byte, r.Intn(12))
		r.Read(b)
		return b
	}
	for range 2000 {
		limit := r.Intn(200)
		l, m := log.New(limit), model{limit: limit}
		for range 40 {
			switch r.Intn(8) {
			default:
				b := record()
				is := m.len()+len(b)+4 <= limit
				if is {
					m.records = append(m.records, string(b))
				}
				if l.Append(b) != is {
					t.Fatalf("P1101: Append is not %v: %s", is, text(l))
				}
				for i := range b {
					b[i] ^= 0xff // not kept
				}
			case 0:
				l.Sync()
				m.sure = m.len()
			case 1:
				keep := r.Intn(60) - 5
				c, d := l.Crash(keep), m.crash(keep)
				if text(c) != d.text() {
					t.Fatalf("P1101: Crash(%d): %s; want %s", keep, text(c), d.text())
				}
				// What is sure is there; what is there is a front of what was.
				was, is := l.Records(), c.Records()
				if c.Len() < l.Sure() || len(is) > len(was) || fmt.Sprintf("%q", was[:len(is)]) != fmt.Sprintf("%q", is) && len(is) > 0 {
					t.Fatalf("P1102: Crash(%d) of %s: %s", keep, text(l), text(c))
				}
				if r.Intn(2) == 0 {
					l, m = c, d
				} else { // they do not touch one another
					was := text(l)
					c.Append(record())
					c.Compact(nil)
					c.Append(record())
					if text(l) != was {
						t.Fatalf("P7: %s; was %s", text(l), was)
					}
				}
			case 2:
				var records [][]byte
				other := model{limit: limit}
				for range r.Intn(6) {
					records = append(records, record())
					other.records = append(other.records, string(records[len(records)-1]))
				}
				is := other.len() <= limit
				if l.Compact(records) != is {
					t.Fatalf("P1101: Compact is not %v", is)
				}
				if is {
					m = other
					m.sure = m.len()
				}
				for _, b := range records {
					for i := range b {
						b[i] ^= 0xff
					}
				}
			}
			if text(l) != m.text() {
				t.Fatalf("P1101: %s; want %s", text(l), m.text())
			}
		}
	}
}

func TestP2RecordsAreNew(t *testing.T) {
	l := log.New(100)
	for _, s := range []string{"abc", "", "de", "fghi"} {
		l.Append([]byte(s))
	}
	was, a, b := text(l), l.Records(), l.Records()
	for i := range a {
		_ = append(a[i], "zzzzzzzz"...)
		for j := range a[i][:cap(a[i])] {
			a[i][:cap(a[i])][j] = 'z'
		}
	}
	if text(l) != was || fmt.Sprintf("%q", b) != `["abc" "" "de" "fghi"]` || fmt.Sprintf("%q", a) != `["zzz" "" "zz" "zzzz"]` {
		t.Errorf("P2: %s, %q, %q", text(l), a, b)
	}
	kept := []byte("xyz")
	l.Compact([][]byte{kept})
	c := l.Crash(0)
	kept[0] = 'q'
	l.Records()[0][1] = 'q'
	if text(l) != `["xyz"] 7 7` || text(c) != `["xyz"] 7 7` {
		t.Errorf("P2: %s, %s", text(l), text(c))
	}
}

func TestP1AnyNumbers(t *testing.T) {
	for _, limit := range []int{-1, math.MinInt} {
		l := log.New(limit)
		if l.Append(nil) || l.Append([]byte("a")) || l.Len() != 0 {
			t.Errorf("P1101: %s", text(l))
		}
		l.Sync()
		l.Crash(math.MinInt)
		l.Compact(nil)
		l.Compact([][]byte{nil})
	}
}
