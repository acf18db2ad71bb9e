package code

import (
	"hawser/api"
	"hawser/num"
	"hawser/wire"
)

// Decode: see the chapter.
func Decode(b []byte) ([]Inst, api.Errno, int) {
	if len(b) > api.MaxCode {
		return nil, api.ErrLong, 0
	}
	var list []Inst
	r := wire.NewReader(b)
next:
	if r.Left() == 0 {
		return list, api.OK, 0
	}
	i := readInst(r, len(b))
	if why := refusal(r); why != api.OK {
		return nil, why, i.At
	}
	list = append(list, i)
	goto next
}

// readInst leaves the order of refusals to the Reader: that keeps the first one, and all behind it is zero. Where it stands shows in what is left of size bytes.
func readInst(r *wire.Reader, size int) Inst {
	i := Inst{At: size - r.Left()}
	i.Op = readByte(r)
	left, ok := layout(i.Op)
	failUnless(r, ok)
field:
	if left == "" {
		return i
	}
	switch left[0] {
	case fieldN:
		i.N = readNumber(r)
	case fieldText:
		i.Text = r.Text(api.MaxText)
	case fieldA:
		i.A = readByte(r)
		failUnless(r, rightCount(i))
	case fieldB:
		i.B = readByte(r)
	case fieldRef:
		failUnless(r, readPair(r) == 0)
	case fieldTo:
		i.To = readWays(r, size-r.Left(), ways(i))
	}
	left = left[1:]
	goto field
}

// readNumber asks whether it is right behind both parts, so that a second part that is cut off is told first.
func readNumber(r *wire.Reader) complex128 {
	first := r.Signed()
	second := r.Signed()
	n := complex(float64(first), float64(second))
	failUnless(r, num.Right(n))
	return n
}

func readByte(r *wire.Reader) int {
	if b := r.Raw(1); len(b) == 1 {
		return int(b[0])
	}
	return 0
}

func readPair(r *wire.Reader) int {
	if b := r.Raw(pairSize); len(b) == pairSize {
		return int(b[0])<<8 | int(b[1])
	}
	return 0
}

// readWays may take the end of the ways for that of the instruction, since they stand last in it.
func readWays(r *wire.Reader, at, count int) []int {
	behind := at + pairSize*count
	to := make([]int, count)
	for k := range to {
		to[k] = behind + readPair(r)
	}
	return to
}

func failUnless(r *wire.Reader, right bool) {
	if !right {
		r.Fail(api.ErrForm)
	}
}

// refusal does not count bytes that are left, since they are the next instructions; a number or text that is too long has no right form here.
func refusal(r *wire.Reader) api.Errno {
	switch why, _ := r.End(); why {
	case api.ErrTail:
		return api.OK
	case api.ErrLong:
		return api.ErrForm
	default:
		return why
	}
}
