package mean

import (
	"bytes"

	"hawser/api"
	"hawser/num"
)

// operate is what an operation gives, or why it ends.
func operate(op string, l []value) (value, api.Errno) {
	switch op {
	case "eq":
		return truth(same(l[0], l[1])), api.OK
	case "lt":
		return truth(num.Less(l[0].(complex128), l[1].(complex128))), api.OK
	case "len":
		return number(length(l[0])), api.OK
	case "cat":
		return cat(l[0], l[1])
	case "at":
		return at(l[0], l[1].(complex128))
	case "cut":
		return cut(l[0].(*row[byte]), l[1].(complex128), l[2].(complex128))
	case "neg", "conj", "re", "im":
		return num.One(op, l[0].(complex128))
	}
	return num.Two(op, l[0].(complex128), l[1].(complex128))
}

func number(n int) complex128 { return complex(float64(n), 0) }

func truth(ok bool) complex128 {
	if ok {
		return 1
	}
	return 0
}

func same(a, b value) bool {
	if text, ok := a.(*row[byte]); ok {
		return bytes.Equal(text.flat(), b.(*row[byte]).flat())
	}
	return a.(complex128) == b.(complex128)
}

func length(v value) int {
	if text, ok := v.(*row[byte]); ok {
		return text.length()
	}
	return v.(*row[value]).length()
}

func cat(a, b value) (value, api.Errno) {
	if length(a)+length(b) > api.MaxLength {
		return nil, api.ErrRange
	}
	if text, ok := a.(*row[byte]); ok {
		return join(text, b.(*row[byte])), api.OK
	}
	return join(a.(*row[value]), b.(*row[value])), api.OK
}

func at(v value, n complex128) (value, api.Errno) {
	k, ok := num.Index(n)
	if !ok || k >= length(v) {
		return nil, api.ErrIndex
	}
	if text, ok := v.(*row[byte]); ok {
		return number(int(text.at(k))), api.OK
	}
	return v.(*row[value]).at(k), api.OK
}

func cut(text *row[byte], first, second complex128) (value, api.Errno) {
	from, isFrom := num.Index(first)
	to, isTo := num.Index(second)
	if !isFrom || !isTo || from > to || to > text.length() {
		return nil, api.ErrIndex
	}
	return text.cut(from, to), api.OK
}
