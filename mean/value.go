package mean

import (
	"hawser/api"
	"hawser/num"
)

// value is what an expression gives: a complex128, a *row[byte], a *row[value], a variant or a closure. Which of them it is, is not asked where sema has told it.
type value any

type variant struct {
	number int
	fields []value
}

// closure begins the body of a function, with the arguments.
type closure func(args []value)

// taken are values that are handed in, and fit. They are not copied: nothing is written into them, and what is answered is copied.
func taken(l []api.Value) []value {
	out := make([]value, len(l))
	for k := range l {
		out[k] = takenOne(&l[k])
	}
	return out
}

func takenOne(v *api.Value) value {
	switch v.Kind {
	case api.Num:
		n, _ := num.Two("add", v.N, 0) // so that a -0 is 0
		return n
	case api.Bytes:
		return rowOf(v.B)
	case api.Array:
		return rowOf(taken(v.Kids))
	}
	return variant{v.Case, taken(v.Kids)}
}

// shownValue is a value as it is answered, in memory of its own; false, if there are too many values in it.
func shownValue(v value) (api.Value, bool) {
	s := shower{count: 1}
	out := s.show(v)
	if s.count > api.MaxShown {
		return api.Value{}, false
	}
	return out, true
}

// shower counts the values of a list ahead of showing them, so that it stops when they are too many: a value may be far greater than what is kept of it, where others stand in it many times over.
type shower struct{ count int }

func (s *shower) show(v value) api.Value {
	switch v := v.(type) {
	case complex128:
		return api.Value{Kind: api.Num, N: v}
	case *row[byte]:
		return api.Value{Kind: api.Bytes, B: v.flat()}
	case *row[value]:
		return api.Value{Kind: api.Array, Kids: s.showAll(v.flat())}
	case variant:
		return api.Value{Kind: api.Variant, Case: v.number, Kids: s.showAll(v.fields)}
	}
	return api.Value{Kind: api.Closure}
}

func (s *shower) showAll(l []value) []api.Value {
	s.count += len(l)
	if s.count > api.MaxShown {
		return nil
	}
	var out []api.Value
	for _, v := range l {
		out = append(out, s.show(v))
	}
	return out
}
