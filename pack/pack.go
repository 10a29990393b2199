// Package pack: numbers, texts and lists as bytes.
package pack

import "iter"

// A number is eight bytes, the highest first, by two's complement.
const wide = 8

// Number tells b and a number behind it.
func Number(b []byte, n int) []byte {
	for shift := 8 * (wide - 1); shift >= 0; shift -= 8 {
		b = append(b, byte(uint64(n)>>shift))
	}
	return b
}

// Text tells b and a text behind it: how many bytes, and these.
func Text[T string | []byte](b []byte, s T) []byte {
	return append(Number(b, len(s)), s...)
}

// List tells b and a list behind it: how many items, and these.
func List[T any](b []byte, l []T, one func([]byte, T) []byte) []byte {
	b = Number(b, len(l))
	for _, x := range l {
		b = one(b, x)
	}
	return b
}

// Reader reads bytes from the first on; where something is wrong it tells zero values from there on.
type Reader struct {
	rest []byte
	bad  bool
}

func Read(b []byte) *Reader { return &Reader{rest: b} }

// Fail tells the reader that what it read is wrong.
func (r *Reader) Fail() { r.bad = true }

// Whole tells whether all was read, and nothing wrong.
func (r *Reader) Whole() bool { return !r.bad && len(r.rest) == 0 }

func (r *Reader) Number() int {
	n := uint64(0)
	for _, b := range r.take(wide) {
		n = n<<8 | uint64(b)
	}
	return int(n)
}

func (r *Reader) Text() string { return string(r.Bytes()) }

// Bytes tells a text's bytes, as they stand in what is read.
func (r *Reader) Bytes() []byte {
	n := r.Number()
	return r.take(n)
}

// Items goes through a list: whoever does reads one item each time.
func (r *Reader) Items() iter.Seq[int] {
	return func(yield func(int) bool) {
		n := r.Number()
		if n < 0 {
			r.Fail()
		}
		for i := range n {
			if r.bad || !yield(i) {
				return
			}
		}
	}
}

// take reads so many bytes.
func (r *Reader) take(n int) []byte {
	if r.bad || n < 0 || n > len(r.rest) {
		r.Fail()
		return nil
	}
	b := r.rest[:n]
	r.rest = r.rest[n:]
	return b
}
