package verify

import (
	"slices"

	"hawser/api"
	"hawser/code"
	"hawser/object"
)

// Fun: see the chapter. A number that is no function's is an argument that may not be.
func Fun(o object.Object, n int) (api.Errno, int) {
	if !isIndex(n, len(o.Funs)) {
		return api.ErrArg, 0
	}
	list, why, at := code.Decode(o.Funs[n].Code)
	if why != api.OK {
		return why, at
	}
	symbols := symbolsByPlace(o, n)
	if at, loose := looseEnd(o, n, code.Refs(list), symbols); loose {
		return api.ErrRef, at
	}
	w := walk{Object: o, result: o.Funs[n].Result, symbols: symbols}
	return w.through(list, firstState(o.Funs[n]))
}

func isIndex(n, count int) bool { return 0 <= n && n < count }

// symbolsByPlace tells which symbol each relocation of function n stands for. One without a symbol counts as none: object.Right lets none such by.
func symbolsByPlace(o object.Object, n int) map[int]object.Symbol {
	symbols := make(map[int]object.Symbol)
	for _, r := range o.Relocs {
		if r.Fun == n && isIndex(r.Sym, len(o.Symbols)) {
			symbols[r.At] = o.Symbols[r.Sym]
		}
	}
	return symbols
}

// looseEnd is the first reference that has no relocation, else the first relocation that has no reference. Both lists are in order of places.
func looseEnd(o object.Object, n int, refs []int, symbols map[int]object.Symbol) (int, bool) {
	for _, at := range refs {
		if _, ok := symbols[at]; !ok {
			return at, true
		}
	}
	for _, r := range o.Relocs {
		if r.Fun == n && !slices.Contains(refs, r.At) {
			return r.At, true
		}
	}
	return 0, false
}
