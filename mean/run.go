package mean

import (
	"slices"

	"hawser/api"
)

// mostOpen is how many calls may be open.
const mostOpen = 1000

// run is a program while it runs. What is left to do is kept in closures, the next one last: so whatever is open in the program, no call of ours is.
type run struct {
	fuel, begun, open int
	why               api.Errno
	left              []func()
	given             []value // values that what is left to do will take, the last one last
}

func (r *run) later(do func()) { r.left = append(r.left, do) }

func (r *run) give(v value) { r.given = append(r.given, v) }

func (r *run) end(why api.Errno) { r.why = why }

func (r *run) giveUnless(v value, why api.Errno) {
	if why != api.OK {
		r.end(why)
		return
	}
	r.give(v)
}

// take is the last values that were given, in a list of their own.
func (r *run) take(many int) []value {
	from := len(r.given) - many
	l := slices.Clone(r.given[from:])
	r.given = r.given[:from]
	return l
}

// value does first and all that it leaves to do, and is the value which that gives; nil, if the program ends there, or has ended.
func (r *run) value(first func()) value {
	r.later(first)
	for len(r.left) > 0 && r.why == api.OK {
		last := len(r.left) - 1
		next := r.left[last]
		r.left = r.left[:last]
		next()
	}
	if r.why != api.OK {
		return nil
	}
	return r.take(1)[0]
}

func (r *run) setConsts(h *home) {
	for k := range h.consts {
		def := &h.consts[k]
		h.globals[def.Name].now = r.value(func() { r.begin(&def.Body, place{home: h}) })
	}
}

// answer is what a call of the function gives.
func (r *run) answer(function *global, args []value) (api.Answer, int) {
	v := r.value(func() { r.call(function.now, args) })
	if r.why != api.OK {
		return api.Answer{Why: r.why}, r.begun
	}
	shown, ok := shownValue(v)
	if !ok {
		return api.Answer{Why: api.ErrHeap}, r.begun
	}
	return api.Answer{Value: shown}, r.begun
}

func (r *run) begin(e *api.Expr, at place) {
	if r.begun == r.fuel {
		r.end(api.ErrFuel)
		return
	}
	r.begun++
	switch e.Kind {
	case api.Number:
		r.give(e.N)
	case api.Text:
		r.give(rowOf([]byte(e.Text)))
	case api.Var:
		r.giveNamed(e.Name, at)
	case api.Let:
		r.afterKids(e.Kids[:1], at, func(l []value) { r.begin(&e.Kids[1], at.with(e.Name, l[0])) })
	case api.If:
		r.afterKids(e.Kids[:1], at, func(l []value) { r.begin(chosen(e, l[0]), at) })
	case api.Op:
		r.afterKids(e.Kids, at, func(l []value) { r.giveUnless(operate(e.Name, l)) })
	case api.List:
		r.afterKids(e.Kids, at, func(l []value) { r.give(rowOf(l)) })
	case api.Make:
		r.afterKids(e.Kids, at, func(l []value) { r.give(variant{at.home.caseNumber(e.Name), l}) })
	case api.Match:
		r.afterKids(e.Kids[:1], at, func(l []value) { r.beginArm(e.Arms, l[0], at) })
	case api.Lambda:
		r.give(r.closureOf(e.Params, &e.Kids[0], at))
	case api.Apply:
		r.afterKids(e.Kids, at, func(l []value) { r.call(l[0], l[1:]) })
	case api.Call:
		r.afterKids(e.Kids, at, func(l []value) { r.call(at.home.globals[e.Name].now, l) })
	}
}

// afterKids does with the values of the Kids, which are begun from the left, what is left to do then.
func (r *run) afterKids(kids []api.Expr, at place, then func(l []value)) {
	r.later(func() { then(r.take(len(kids))) })
	for k := len(kids) - 1; k >= 0; k-- {
		r.later(func() { r.begin(&kids[k], at) })
	}
}

func (r *run) giveNamed(name string, at place) {
	v, ok := at.find(name)
	if !ok {
		v = at.home.globals[name].now
	}
	if v == nil {
		r.end(api.ErrInit)
		return
	}
	r.give(v)
}

// chosen is the Kid of an If that is begun behind the first one.
func chosen(e *api.Expr, v value) *api.Expr {
	if v.(complex128) != 0 {
		return &e.Kids[1]
	}
	return &e.Kids[2]
}

func (r *run) beginArm(arms []api.Arm, v value, at place) {
	whole := v.(variant)
	for k := range arms {
		arm := &arms[k]
		if at.home.caseNumber(arm.Case) != whole.number {
			continue
		}
		for n, name := range arm.Vars {
			at = at.with(name, whole.fields[n])
		}
		r.begin(&arm.Body, at)
		return
	}
}

// closureOf is a function of what is seen where it stands.
func (r *run) closureOf(params []api.Param, body *api.Expr, at place) closure {
	return func(args []value) {
		inner := at
		for k, param := range params {
			inner = inner.with(param.Name, args[k])
		}
		r.begin(body, inner)
	}
}

func (r *run) call(function value, args []value) {
	if r.open == mostOpen {
		r.end(api.ErrDepth)
		return
	}
	r.open++
	r.later(func() { r.open-- })
	function.(closure)(args)
}
