package object

import (
	"slices"
	"strconv"

	"hawser/api"
	"hawser/iface"
	"hawser/lex"
	"hawser/types"
)

const maxRelocs = 4 * api.MaxSymbols

// Right: see the chapter.
func Right(o Object) (api.Errno, int) {
	if !lex.Value(o.Module) {
		return api.ErrName, 0
	}
	if tooMany(o) {
		return api.ErrMany, 0
	}
	l := looking{o}
	for _, list := range []struct {
		count int
		right func(int) api.Errno
	}{
		{len(o.Types), l.typeAt},
		{len(o.Texts), l.textAt},
		{len(o.Globals), l.globalAt},
		{len(o.Funs), l.funAt},
		{len(o.Exports), l.exportAt},
		{len(o.Symbols), l.symbolAt},
		{len(o.Relocs), l.relocAt},
	} {
		for k := range list.count {
			if why := list.right(k); why != api.OK {
				return why, k
			}
		}
	}
	return api.OK, 0
}

func tooMany(o Object) bool {
	return len(o.Types) > api.MaxItems || len(o.Texts) > api.MaxItems || len(o.Globals) > api.MaxItems || len(o.Exports) > api.MaxItems ||
		len(o.Funs) > api.MaxFuns || len(o.Symbols) > api.MaxSymbols || len(o.Relocs) > maxRelocs
}

// looking looks at one element of an object at a time, by a method for each list. All elements ahead of it are right, those of the lists ahead too.
type looking struct{ Object }

func (l looking) typeAt(k int) api.Errno {
	item := l.Types[k]
	if why := rightAlone(l.Module, item); why != api.OK {
		return why
	}
	if item.Kind != api.Type {
		return api.ErrForm
	}
	if slices.ContainsFunc(l.Types[:k], func(t api.Item) bool { return t.Name == item.Name }) {
		return api.ErrTaken
	}
	return api.OK
}

func rightAlone(module string, item api.Item) api.Errno {
	return iface.Right(api.Iface{Module: module, Items: []api.Item{item}})
}

func (l looking) textAt(k int) api.Errno {
	if !types.Right(l.Texts[k]) {
		return api.ErrType
	}
	return api.OK
}

func (l looking) globalAt(k int) api.Errno {
	switch g := l.Globals[k]; {
	case !lex.Value(g.Name):
		return api.ErrName
	case isGlobal(l.Globals[:k], g.Name):
		return api.ErrTaken
	case !types.Right(g.Type):
		return api.ErrType
	case !isIndex(g.Fun, len(l.Funs)):
		return api.ErrRef
	}
	return api.OK
}

func isGlobal(globals []Global, name string) bool {
	return slices.ContainsFunc(globals, func(g Global) bool { return g.Name == name })
}

func isIndex(n, count int) bool { return 0 <= n && n < count }

func (l looking) funAt(k int) api.Errno {
	switch f := l.Funs[k]; {
	case f.Name != "" && !lex.Value(f.Name):
		return api.ErrName
	case f.Name != "" && (isFun(l.Funs[:k], f.Name) || isGlobal(l.Globals, f.Name)):
		return api.ErrTaken
	case !rightCounts(f):
		return api.ErrCount
	case !types.Right(f.Result), !allTypes(f.Params), !types.Right(Sign(f)):
		return api.ErrType
	case len(f.Code) > api.MaxCode:
		return api.ErrLong
	}
	return api.OK
}

func isFun(funs []Fun, name string) bool {
	return slices.ContainsFunc(funs, func(f Fun) bool { return f.Name == name })
}

// rightCounts need not hold Params against MaxParams + MaxLocals: those that are more than that are more than Locals may be.
func rightCounts(f Fun) bool {
	params := len(f.Params)
	return 0 <= f.Captures && f.Captures <= params && params-f.Captures <= api.MaxParams &&
		params <= f.Locals && f.Locals <= api.MaxLocals &&
		(f.Name == "" || f.Captures == 0)
}

func allTypes(texts []string) bool {
	for _, s := range texts {
		if !types.Right(s) {
			return false
		}
	}
	return true
}

func (l looking) exportAt(k int) api.Errno {
	if _, ok := named(l.Object, l.Exports[k]); !ok {
		return api.ErrNone
	}
	if k > 0 && l.Exports[k] <= l.Exports[k-1] {
		return api.ErrTaken
	}
	return api.OK
}

func (l looking) symbolAt(k int) api.Errno {
	s := l.Symbols[k]
	if !lex.Value(s.Module) {
		return api.ErrName
	}
	if why := l.rightItem(s); why != api.OK {
		return why
	}
	if slices.ContainsFunc(l.Symbols[:k], s.isSame) {
		return api.ErrTaken
	}
	return api.OK
}

// rightItem asks iface nothing of the object's own function without a name, since iface knows none such; Cases are refused there as here.
func (l looking) rightItem(s Symbol) api.Errno {
	switch {
	case s.Module != l.Module, s.Item.Kind != api.Fun, s.Item.Name != "":
		return rightAlone(s.Module, s.Item)
	case len(s.Item.Cases) > 0:
		return api.ErrForm
	case !l.isUnnamed(s.Item.Type):
		return api.ErrRef
	}
	return api.OK
}

// isUnnamed writes numbers rather than reading one, so that each number has one writing alone.
func (l looking) isUnnamed(digits string) bool {
	for n, f := range l.Funs {
		if strconv.Itoa(n) == digits {
			return f.Name == ""
		}
	}
	return false
}

// isSame asks for the Type only where a symbol has nothing else to be known by.
func (s Symbol) isSame(t Symbol) bool {
	return s.Module == t.Module && s.Item.Kind == t.Item.Kind && s.Item.Name == t.Item.Name && (s.Item.Name != "" || s.Item.Type == t.Item.Type)
}

func (l looking) relocAt(k int) api.Errno {
	r := l.Relocs[k]
	if !isIndex(r.Fun, len(l.Funs)) || !isIndex(r.At, len(l.Funs[r.Fun].Code)-1) || !isIndex(r.Sym, len(l.Symbols)) {
		return api.ErrRef
	}
	if k > 0 && !l.Relocs[k-1].isAhead(r) {
		return api.ErrForm
	}
	return api.OK
}

func (r Reloc) isAhead(next Reloc) bool {
	return r.Fun < next.Fun || r.Fun == next.Fun && r.At < next.At
}
