package code

import (
	"strings"

	"hawser/api"
	"hawser/num"
	"hawser/wire"
)

// Encode goes on to the end behind MaxCode, without keeping what it writes: ErrLong is told only where nothing else is refused.
func Encode(l []Inst) ([]byte, api.Errno) {
	var out []byte
	end := 0
	for _, i := range l {
		if !formed(i) {
			return nil, api.ErrForm
		}
		head := writeHead(i)
		behind := end + len(head) + pairSize*len(i.To)
		if i.At != end || !reaches(behind, i.To) {
			return nil, api.ErrJump
		}
		end = behind
		if end <= api.MaxCode {
			out = append(out, head...)
			out = appendWays(out, behind, i.To)
		}
	}
	if end > api.MaxCode {
		return nil, api.ErrLong
	}
	return out, api.OK
}

// formed asks about a field only where it is not zero, since zero is right in each field, asked or not; but how many ways there are is always asked.
func formed(i Inst) bool {
	fields, ok := layout(i.Op)
	asked := func(field byte) bool { return strings.IndexByte(fields, field) >= 0 }
	return ok &&
		(i.N == 0 || asked(fieldN) && num.Right(i.N)) &&
		(i.Text == "" || asked(fieldText) && len(i.Text) <= api.MaxText) &&
		(i.A == 0 || asked(fieldA) && isByte(i.A)) &&
		(i.B == 0 || asked(fieldB) && isByte(i.B)) &&
		rightCount(i) && len(i.To) == ways(i)
}

func isByte(n int) bool { return 0 <= n && n <= mostByte }

// reaches takes no difference of places, since those that are handed in may be any numbers.
func reaches(behind int, to []int) bool {
	for _, place := range to {
		if place < behind || place > behind+mostPair {
			return false
		}
	}
	return true
}

// writeHead writes an instruction up to the places that it goes to: these count from behind the instruction on, and how long it is shows only here.
func writeHead(i Inst) []byte {
	w := wire.NewWriter()
	w.Raw([]byte{byte(i.Op)})
	fields, _ := layout(i.Op)
	for k := range len(fields) {
		switch fields[k] {
		case fieldN:
			w.Signed(int64(real(i.N)))
			w.Signed(int64(imag(i.N)))
		case fieldText:
			w.Text(i.Text)
		case fieldA:
			w.Raw([]byte{byte(i.A)})
		case fieldB:
			w.Raw([]byte{byte(i.B)})
		case fieldRef:
			w.Raw(make([]byte, pairSize))
		}
	}
	return w.Done()
}

func appendWays(out []byte, behind int, to []int) []byte {
	for _, place := range to {
		out = append(out, byte((place-behind)>>8), byte(place-behind))
	}
	return out
}
