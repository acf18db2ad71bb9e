package capture

import (
	"iter"
	"math"

	"hawser/api"
)

// deepest is how many expressions may be nested in one another: more than the document asks for, and few enough for calls within calls. A ring of expressions, which has no end, is told by it.
const deepest = 1 << 18

// mostGiven is how many expressions the document lets be given. One that was put together by hand, with lists that stand in it many times over, may be of so many that no call would end.
const mostGiven = math.MaxInt32

// parts are the expressions that stand in e, from the left, each with the names that e binds in it.
func parts(e *api.Expr) iter.Seq2[*api.Expr, []string] {
	return func(yield func(*api.Expr, []string) bool) {
		for k := range e.Kids {
			if !yield(&e.Kids[k], boundInKid(e, k)) {
				return
			}
		}
		for k := range e.Arms {
			if !yield(&e.Arms[k].Body, e.Arms[k].Vars) {
				return
			}
		}
	}
}

func boundInKid(e *api.Expr, k int) []string {
	switch {
	case e.Kind == api.Let && k == len(e.Kids)-1:
		return []string{e.Name}
	case e.Kind == api.Lambda:
		names := make([]string, len(e.Params))
		for n, param := range e.Params {
			names[n] = param.Name
		}
		return names
	}
	return nil
}

// measure tells how deep and how many the expressions of e are; of one that has no end, or none within the bounds, false.
func measure(e *api.Expr) (depth, count int, ends bool) {
	var within func(e *api.Expr, deep int) bool
	within = func(e *api.Expr, deep int) bool {
		depth, count = max(depth, deep), count+1
		if deep > deepest || count > mostGiven {
			return false
		}
		for part := range parts(e) {
			if !within(part, deep+1) {
				return false
			}
		}
		return true
	}
	if !within(e, 1) {
		return 0, 0, false
	}
	return depth, count, true
}
