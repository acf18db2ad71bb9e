// Package wire: numbers and texts as bytes: see doc/01-wire.md.
package wire

import (
	"bytes"
	"math"

	"hawser/api"
)

const (
	goesOn   = 0x80 // the bit of a number's byte behind which another one comes
	partBits = 7    // bits of the number in each byte
	mostSize = 10   // bytes of the longest number
	mostLast = 1    // the tenth byte has room for the 64th bit alone
)

// Writer: see the chapter.
type Writer struct {
	out []byte
}

// NewWriter: see the chapter.
func NewWriter() *Writer { return &Writer{} }

// Number: see the chapter.
func (w *Writer) Number(n uint64) {
next:
	if n >= goesOn {
		w.out = append(w.out, byte(n)|goesOn)
		n >>= partBits
		goto next
	}
	w.out = append(w.out, byte(n))
}

// Signed takes -2n - 1 as 2(-n - 1) + 1, and -n - 1 as ^n, so that the least n does not overflow.
func (w *Writer) Signed(n int64) {
	if n < 0 {
		w.Number(uint64(^n)<<1 | 1)
		return
	}
	w.Number(uint64(n) << 1)
}

// Text: see the chapter.
func (w *Writer) Text(s string) {
	w.Number(uint64(len(s)))
	w.out = append(w.out, s...)
}

// Raw: see the chapter.
func (w *Writer) Raw(b []byte) { w.out = append(w.out, b...) }

// Done answers a copy, since more may be written behind it.
func (w *Writer) Done() []byte { return bytes.Clone(w.out) }

// Reader: see the chapter.
type Reader struct {
	in  []byte
	at  int       // of the next byte; behind a refusal its place
	why api.Errno // the first refusal
}

// NewReader takes a copy, since b stays its owner's to change.
func NewReader(b []byte) *Reader { return &Reader{in: bytes.Clone(b)} }

// Number: see the chapter.
func (r *Reader) Number(most uint64) uint64 {
	if r.why != api.OK {
		return 0
	}
	n, size, why := number(r.in[r.at:])
	switch {
	case why == api.ErrEnd:
		r.short()
		return 0
	case why != api.OK:
		r.Fail(why)
		return 0
	case n > most:
		r.Fail(api.ErrLong)
		return 0
	}
	r.at += size
	return n
}

// number reads what b begins with, and tells how many bytes that is.
func number(b []byte) (n uint64, size int, why api.Errno) {
	var part byte
next:
	// Asked ahead of the end, since ten bytes that go on are wrong whatever follows them.
	if size == mostSize {
		return 0, 0, api.ErrForm
	}
	if size == len(b) {
		return 0, 0, api.ErrEnd
	}
	part = b[size]
	n |= uint64(part&^goesOn) << (partBits * size)
	size++
	if part&goesOn != 0 {
		goto next
	}
	if part == 0 && size > 1 || part > mostLast && size == mostSize {
		return 0, 0, api.ErrForm
	}
	return n, size, api.OK
}

// Signed: see the chapter.
func (r *Reader) Signed() int64 {
	n := r.Number(math.MaxUint64)
	if n&1 == 1 {
		return ^int64(n >> 1)
	}
	return int64(n >> 1)
}

// Text may take the length as an int, since it is at most most.
func (r *Reader) Text(most int) string {
	return string(r.take(int(r.Number(uint64(max(most, 0))))))
}

// Raw answers a copy, since the caller may change it.
func (r *Reader) Raw(n int) []byte { return bytes.Clone(r.take(n)) }

// take answers bytes of the Reader's own: they are copied before they are handed out.
func (r *Reader) take(n int) []byte {
	if r.why != api.OK || n <= 0 {
		return nil
	}
	if n > len(r.in)-r.at {
		r.short()
		return nil
	}
	r.at += n
	return r.in[r.at-n : r.at]
}

// short moves first, since a want of bytes is told at the end of all.
func (r *Reader) short() {
	r.at = len(r.in)
	r.Fail(api.ErrEnd)
}

// Fail: see the chapter.
func (r *Reader) Fail(why api.Errno) {
	if r.why == api.OK {
		r.why = why
	}
}

// Left: see the chapter.
func (r *Reader) Left() int {
	if r.why != api.OK {
		return 0
	}
	return len(r.in) - r.at
}

// End does not keep ErrTail, since what is left may still be read.
func (r *Reader) End() (api.Errno, int) {
	switch {
	case r.why != api.OK:
		return r.why, r.at
	case r.at < len(r.in):
		return api.ErrTail, r.at
	}
	return api.OK, 0
}
