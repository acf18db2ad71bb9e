package verify

import (
	"slices"
	"strconv"

	"hawser/api"
	"hawser/code"
	"hawser/object"
	"hawser/types"
)

// step takes the state over one instruction, or tells why not.
func (w *walk) step(i code.Inst) api.Errno {
	if !w.arrive(i.At) || !w.areInstructions(i.To) {
		return api.ErrJump
	}
	switch i.Op {
	case code.Push:
		return w.push(num)
	case code.Literal:
		return w.push(bytes)
	case code.Load:
		return w.load(i.A)
	case code.Store:
		return w.store(i.A)
	case code.Jump:
		return w.jump(i)
	case code.Zero:
		return w.zero(i)
	case code.Do:
		return w.do(i.A)
	case code.Array:
		return w.array(i)
	case code.Build:
		return w.build(i)
	case code.Switch:
		return w.split(i)
	case code.Call:
		return w.call(i)
	case code.Global:
		return w.global(i)
	case code.Close:
		return w.enclose(i)
	case code.Apply:
		return w.apply(i.A)
	}
	return w.leave() // code.Decode lets nothing by but these and Ret
}

func (w *walk) load(a int) api.Errno {
	if a >= len(w.locals) || w.locals[a] == "" {
		return api.ErrRef
	}
	return w.push(w.locals[a])
}

func (w *walk) store(a int) api.Errno {
	top := len(w.stack) - 1
	switch {
	case a >= len(w.locals):
		return api.ErrRef
	case top < 0:
		return api.ErrStack
	}
	w.locals[a] = w.stack[top]
	w.stack = w.stack[:top]
	return api.OK
}

func (w *walk) jump(i code.Inst) api.Errno {
	w.goTo(i.To[0])
	return api.OK
}

func (w *walk) zero(i code.Inst) api.Errno {
	if why := w.pop(num); why != api.OK {
		return why
	}
	return w.jump(i)
}

func (w *walk) array(i code.Inst) api.Errno {
	if i.B >= len(w.Texts) {
		return api.ErrRef
	}
	elem := w.Texts[i.B]
	if why := w.pop(slices.Repeat([]string{elem}, i.A)...); why != api.OK {
		return why
	}
	made := types.Array(elem)
	if !types.Right(made) {
		return api.ErrType
	}
	return w.push(made)
}

// symbol is what the instruction's reference means.
func (w *walk) symbol(i code.Inst) object.Symbol {
	ahead, _ := code.Takes(i.Op)
	return w.symbols[i.At+ahead]
}

func (w *walk) build(i code.Inst) api.Errno {
	s := w.symbol(i)
	if s.Item.Kind != api.Type || i.A >= len(s.Item.Cases) {
		return api.ErrRef
	}
	return w.popThenPush(s.Item.Cases[i.A].Fields, symbolName(s))
}

// split goes on with the fields of each case, each at its place.
func (w *walk) split(i code.Inst) api.Errno {
	s := w.symbol(i)
	switch {
	case s.Item.Kind != api.Type:
		return api.ErrRef
	case len(s.Item.Cases) != i.A:
		return api.ErrCount
	}
	if why := w.pop(symbolName(s)); why != api.OK {
		return why
	}
	for k, c := range s.Item.Cases {
		if len(w.stack)+len(c.Fields) > api.MaxStack {
			return api.ErrStack
		}
		w.goTo(i.To[k], c.Fields...)
	}
	return api.OK
}

func (w *walk) call(i code.Inst) api.Errno {
	f, ok := w.function(i)
	if !ok || f.Captures > 0 {
		return api.ErrRef
	}
	return w.popThenPush(f.Params, f.Result)
}

// function is what the instruction's reference means, if it is a function: of one with a name all that is needed stands in its type, since it takes nothing along.
func (w *walk) function(i code.Inst) (object.Fun, bool) {
	switch item := w.symbol(i).Item; {
	case item.Kind != api.Fun:
		return object.Fun{}, false
	case item.Name == "":
		return w.unnamed(item.Type)
	default:
		params, result, ok := types.Parts(item.Type)
		return object.Fun{Params: params, Result: result}, ok
	}
}

func (w *walk) unnamed(digits string) (object.Fun, bool) {
	n, err := strconv.Atoi(digits)
	if err != nil || !isIndex(n, len(w.Funs)) {
		return object.Fun{}, false
	}
	f := w.Funs[n]
	return f, isIndex(f.Captures, len(f.Params)+1)
}

func (w *walk) global(i code.Inst) api.Errno {
	s := w.symbol(i)
	if s.Item.Kind != api.Const {
		return api.ErrRef
	}
	return w.push(s.Item.Type)
}

// enclose makes a closure of a function with what it takes along.
func (w *walk) enclose(i code.Inst) api.Errno {
	f, ok := w.function(i)
	switch {
	case !ok:
		return api.ErrRef
	case f.Captures != i.A:
		return api.ErrCount
	}
	return w.popThenPush(f.Params[:i.A], object.Sign(f))
}

func (w *walk) apply(a int) api.Errno {
	at := len(w.stack) - a - 1
	if at < 0 {
		return api.ErrStack
	}
	params, result, ok := types.Parts(w.stack[at])
	if !ok || !slices.Equal(params, w.stack[at+1:]) {
		return api.ErrType
	}
	w.stack = append(w.stack[:at], result)
	return api.OK
}

func (w *walk) leave() api.Errno {
	if why := w.pop(w.result); why != api.OK {
		return why
	}
	if len(w.stack) > 0 {
		return api.ErrStack
	}
	return api.OK
}
