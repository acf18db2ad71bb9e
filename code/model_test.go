package code_test

import (
	"math"
	"math/big"

	"hawser/api"
	"hawser/code"
)

// The model has each operation written out by itself, and reads and writes without wire and num.

// modelSigned writes a whole number of a part.
func modelSigned(f float64) []byte {
	n := new(big.Int).Mul(big.NewInt(2), big.NewInt(int64(f)))
	if n.Sign() < 0 {
		n.Add(n.Neg(n), big.NewInt(-1))
	}
	var b []byte
	for {
		low := new(big.Int).Mod(n, big.NewInt(128)).Int64()
		n.Div(n, big.NewInt(128))
		if n.Sign() == 0 {
			return append(b, byte(low))
		}
		b = append(b, byte(low)+128)
	}
}

func modelPart(f float64) bool { return f == math.Floor(f) && -1<<20 <= f && f <= 1<<20 }

func modelByte(n int) bool { return n == int(byte(n)) }

// modelHead writes an instruction without where it goes, and tells how many places it must have; false: ErrForm.
func modelHead(i code.Inst) (head []byte, count int, ok bool) {
	noN, noText, noA, noB := i.N == 0, i.Text == "", i.A == 0, i.B == 0
	op, a, b := byte(i.Op), byte(i.A), byte(i.B)
	switch i.Op {
	case 1:
		ok = noText && noA && noB && modelPart(real(i.N)) && modelPart(imag(i.N))
		if ok {
			head = append([]byte{1}, modelSigned(real(i.N))...)
			head = append(head, modelSigned(imag(i.N))...)
		}
		return head, 0, ok
	case 2:
		n := len(i.Text)
		head = []byte{2, byte(n)}
		if n > 127 {
			head = []byte{2, byte(n%128 + 128), byte(n / 128)}
		}
		return append(head, i.Text...), 0, noN && noA && noB && n <= 200
	case 3, 4, 7, 14:
		return []byte{op, a}, 0, noN && noText && noB && modelByte(i.A)
	case 5, 6:
		return []byte{op}, 1, noN && noText && noA && noB
	case 8:
		return []byte{8, a, b}, 0, noN && noText && modelByte(i.A) && modelByte(i.B)
	case 9, 13:
		return []byte{op, a, 0, 0}, 0, noN && noText && noB && modelByte(i.A)
	case 10:
		return []byte{10, a, 0, 0}, i.A, noN && noText && noB && i.A > 0 && i.A < 7
	case 11, 12:
		return []byte{op, 0, 0}, 0, noN && noText && noA && noB
	case 15:
		return []byte{15}, 0, noN && noText && noA && noB
	}
	return nil, 0, false
}

func modelEncode(l []code.Inst) ([]byte, api.Errno) {
	var out []byte
	for _, i := range l {
		head, count, ok := modelHead(i)
		if !ok || count != len(i.To) {
			return nil, api.ErrForm
		}
		if i.At != len(out) {
			return nil, api.ErrJump
		}
		out = append(out, head...)
		end := len(out) + 2*count
		for _, to := range i.To {
			far := new(big.Int).Sub(big.NewInt(int64(to)), big.NewInt(int64(end)))
			if far.Sign() < 0 || far.Cmp(big.NewInt(65535)) > 0 {
				return nil, api.ErrJump
			}
			out = append(out, byte(far.Int64()/256), byte(far.Int64()%256))
		}
	}
	if len(out) > 2048 {
		return nil, api.ErrLong
	}
	return out, api.OK
}

// modelNumber reads a number of wire's: its value, or -1 for one of 2^63 and more, which no field lets by; what is left.
func modelNumber(b []byte) (int64, []byte, api.Errno) {
	n := new(big.Int)
	for k := range 10 {
		if k == len(b) {
			return 0, nil, api.ErrEnd
		}
		n.Add(n, new(big.Int).Lsh(big.NewInt(int64(b[k]%128)), uint(7*k)))
		if b[k] >= 128 {
			continue
		}
		if b[k] == 0 && k > 0 || n.BitLen() > 64 {
			return 0, nil, api.ErrForm
		}
		if n.BitLen() > 63 {
			return -1, b[k+1:], api.OK
		}
		return n.Int64(), b[k+1:], api.OK
	}
	return 0, nil, api.ErrForm
}

// modelPush reads both parts.
func modelPush(b []byte) (complex128, []byte, api.Errno) {
	var parts [2]float64
	wrong := false
	for k := range parts {
		n, left, why := modelNumber(b)
		if why != api.OK {
			return 0, nil, why
		}
		b = left
		parts[k] = float64(n / 2)
		if n%2 == 1 {
			parts[k] = -float64(n/2) - 1
		}
		wrong = wrong || n < 0 || parts[k] > 1<<20 || parts[k] < -1<<20
	}
	if wrong {
		return 0, nil, api.ErrForm
	}
	return complex(parts[0], parts[1]), b, api.OK
}

func modelText(b []byte) (string, []byte, api.Errno) {
	n, left, why := modelNumber(b)
	switch {
	case why != api.OK:
		return "", nil, why
	case n < 0 || n > 200:
		return "", nil, api.ErrForm
	case int(n) > len(left):
		return "", nil, api.ErrEnd
	}
	return string(left[:n]), left[n:], api.OK
}

// modelPlain reads an operation whose fields are bytes: how many behind Op, whether a reference is behind them.
func modelPlain(b []byte, count int, ref bool) (i code.Inst, left []byte, why api.Errno) {
	if len(b) < count {
		return i, nil, api.ErrEnd
	}
	if count > 0 {
		i.A = int(b[0])
	}
	if count > 1 {
		i.B = int(b[1])
	}
	b = b[count:]
	switch {
	case !ref:
		return i, b, api.OK
	case len(b) < 2:
		return i, nil, api.ErrEnd
	case b[0] != 0 || b[1] != 0:
		return i, nil, api.ErrForm
	}
	return i, b[2:], api.OK
}

// modelWays reads where an instruction goes; end: where it ends.
func modelWays(b []byte, count, end int) ([]int, []byte, api.Errno) {
	var to []int
	for range count {
		if len(b) < 2 {
			return nil, nil, api.ErrEnd
		}
		to = append(to, end+256*int(b[0])+int(b[1]))
		b = b[2:]
	}
	return to, b, api.OK
}

// modelInst reads what b begins with, as standing at at.
func modelInst(b []byte, at int) (i code.Inst, left []byte, why api.Errno) {
	op, b := int(b[0]), b[1:]
	switch op {
	case 1:
		i.N, left, why = modelPush(b)
	case 2:
		i.Text, left, why = modelText(b)
	case 3, 4, 7, 14:
		i, left, why = modelPlain(b, 1, false)
	case 5, 6:
		i.To, left, why = modelWays(b, 1, at+3)
	case 8:
		i, left, why = modelPlain(b, 2, false)
	case 9, 13:
		i, left, why = modelPlain(b, 1, true)
	case 10:
		if len(b) > 0 && (b[0] == 0 || b[0] > 6) {
			return i, nil, api.ErrForm
		}
		i, left, why = modelPlain(b, 1, true)
		if why == api.OK {
			i.To, left, why = modelWays(left, i.A, at+4+2*i.A)
		}
	case 11, 12:
		i, left, why = modelPlain(b, 0, true)
	case 15:
		left = b
	default:
		why = api.ErrForm
	}
	i.At, i.Op = at, op
	return i, left, why
}

func modelDecode(b []byte) ([]code.Inst, api.Errno, int) {
	if len(b) > 2048 {
		return nil, api.ErrLong, 0
	}
	var l []code.Inst
	for left := b; len(left) > 0; {
		at := len(b) - len(left)
		i, rest, why := modelInst(left, at)
		if why != api.OK {
			return nil, why, at
		}
		l = append(l, i)
		left = rest
	}
	return l, api.OK, 0
}
