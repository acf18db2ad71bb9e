package verify

import (
	"hawser/api"
	"hawser/types"
)

// What Do does, by its number.
const (
	doAdd = iota
	doSub
	doMul
	doNeg
	doConj
	doRe
	doIm
	doEq
	doLt
	doCat
	doLen
	doAt
	doCut
	operations // how many there are
)

func (w *walk) do(op int) api.Errno {
	if op >= operations {
		return api.ErrForm
	}
	from := len(w.stack) - takes(op)
	if from < 0 {
		return api.ErrStack
	}
	result, ok := resultOf(op, w.stack[from:])
	if !ok {
		return api.ErrType
	}
	w.stack = append(w.stack[:from], result)
	return api.OK
}

func takes(op int) int {
	switch op {
	case doNeg, doConj, doRe, doIm, doLen:
		return 1
	case doCut:
		return 3
	}
	return 2
}

// resultOf is the type of what an operation makes of as many as it takes: false, if they may not be.
func resultOf(op int, l []string) (string, bool) {
	elem, isRow := elemOf(l[0])
	switch op {
	case doEq:
		return num, (l[0] == num || l[0] == bytes) && l[1] == l[0]
	case doCat:
		return l[0], isRow && l[1] == l[0]
	case doLen:
		return num, isRow
	case doAt:
		return elem, isRow && l[1] == num
	case doCut:
		return bytes, l[0] == bytes && l[1] == num && l[2] == num
	}
	for _, t := range l {
		if t != num {
			return "", false
		}
	}
	return num, true
}

// elemOf is the type of what stands in bytes or an array.
func elemOf(t string) (string, bool) {
	if t == bytes {
		return num, true
	}
	return types.Elem(t)
}
