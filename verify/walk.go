package verify

import (
	"slices"

	"hawser/api"
	"hawser/code"
	"hawser/object"
)

// state is what is known ahead of an instruction: the types on the stack, the last one on top, and those of the locals, "" for one that is unset.
type state struct {
	stack, locals []string
}

// mostLocals is how many an instruction can name. object.Right lets fewer by; a function that it has not seen may tell of any number.
const mostLocals = 1 << 8

func firstState(f object.Fun) state {
	locals := make([]string, min(max(f.Locals, 0), mostLocals))
	copy(locals, f.Params)
	return state{locals: locals}
}

// walk goes through the instructions of a function. Each of them goes forward alone, so that all states that reach one wait for it when its turn comes.
type walk struct {
	object.Object
	result  string
	symbols map[int]object.Symbol // by the places of references
	waiting map[int][]state       // by the places of instructions: a place that it lacks is none's
	state                         // of the instruction whose turn it is
}

func (w *walk) through(list []code.Inst, first state) (api.Errno, int) {
	if len(list) == 0 {
		return api.ErrEnd, 0
	}
	w.waiting = make(map[int][]state)
	for _, i := range list {
		w.waiting[i.At] = nil
	}
	w.waiting[0] = []state{first}
	for k, i := range list {
		if why := w.step(i); why != api.OK {
			return why, i.At
		}
		if !goesOn(i.Op) {
			continue
		}
		if k+1 == len(list) {
			return api.ErrEnd, i.At
		}
		w.goTo(list[k+1].At)
	}
	return api.OK, 0
}

func goesOn(op int) bool { return op != code.Jump && op != code.Switch && op != code.Ret }

// goTo lets the state wait for a place, with more on the stack. It is a copy, since one state may go several ways.
func (w *walk) goTo(at int, pushed ...string) {
	next := state{stack: slices.Concat(w.stack, pushed), locals: slices.Clone(w.locals)}
	w.waiting[at] = append(w.waiting[at], next)
}

// arrive takes the states that wait for an instruction as one: false, if there is none such.
func (w *walk) arrive(at int) bool {
	states := w.waiting[at]
	if len(states) == 0 {
		return false
	}
	w.state = states[0]
	for _, s := range states[1:] {
		if !slices.Equal(s.stack, w.stack) {
			return false
		}
		for k, t := range s.locals {
			if t != w.locals[k] {
				w.locals[k] = ""
			}
		}
	}
	return true
}

func (w *walk) areInstructions(places []int) bool {
	for _, at := range places {
		if _, ok := w.waiting[at]; !ok {
			return false
		}
	}
	return true
}

// pop takes these off the stack, the last one first.
func (w *walk) pop(list ...string) api.Errno {
	for _, t := range slices.Backward(list) {
		top := len(w.stack) - 1
		switch {
		case top < 0:
			return api.ErrStack
		case w.stack[top] != t:
			return api.ErrType
		}
		w.stack = w.stack[:top]
	}
	return api.OK
}

func (w *walk) push(t string) api.Errno {
	if len(w.stack) == api.MaxStack {
		return api.ErrStack
	}
	w.stack = append(w.stack, t)
	return api.OK
}

func (w *walk) popThenPush(popped []string, pushed string) api.Errno {
	if why := w.pop(popped...); why != api.OK {
		return why
	}
	return w.push(pushed)
}
