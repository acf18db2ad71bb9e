package sema_test

import (
	"fmt"
	"testing"

	"hawser/api"
)

func whereNumber(at int) api.Expr { return api.Expr{Kind: api.Number, At: at} }

func nodeOf(kind int, name string, kids ...api.Expr) api.Expr {
	return api.Expr{Kind: kind, Name: name, Kids: kids}
}

// nests are expressions of type num around one that is.
func nests() map[string]func(e api.Expr) api.Expr {
	one := whereNumber(1)
	return map[string]func(e api.Expr) api.Expr{
		"let's first": func(e api.Expr) api.Expr { return nodeOf(api.Let, "x", e, one) },
		"let's last":  func(e api.Expr) api.Expr { return nodeOf(api.Let, "x", one, e) },
		"if":          func(e api.Expr) api.Expr { return nodeOf(api.If, "", one, e, one) },
		"op":          func(e api.Expr) api.Expr { return nodeOf(api.Op, "add", one, e) },
		"list": func(e api.Expr) api.Expr {
			return nodeOf(api.Op, "len", api.Expr{Kind: api.List, Type: "num", Kids: []api.Expr{e}})
		},
		"make": func(e api.Expr) api.Expr {
			return api.Expr{Kind: api.Match, Kids: []api.Expr{nodeOf(api.Make, "Q", e)}, Arms: []api.Arm{{Case: "Q", Vars: []string{"x"}, Body: one}}}
		},
		"match": func(e api.Expr) api.Expr {
			return api.Expr{Kind: api.Match, Kids: []api.Expr{nodeOf(api.Make, "Q", one)}, Arms: []api.Arm{{Case: "Q", Vars: []string{"x"}, Body: e}}}
		},
		"lambda": func(e api.Expr) api.Expr {
			return nodeOf(api.Apply, "", api.Expr{Kind: api.Lambda, Type: "num", Params: []api.Param{{Name: "x", Type: "num"}}, Kids: []api.Expr{e}}, one)
		},
		"apply": func(e api.Expr) api.Expr {
			return nodeOf(api.Apply, "", nodeOf(api.Var, "g"), e, nodeOf(api.Make, "A"))
		},
		"call": func(e api.Expr) api.Expr { return nodeOf(api.Call, "g", e, nodeOf(api.Make, "A")) },
	}
}

// The limits: 2^16 parts nested in one another.
func TestDeep(t *testing.T) {
	x := here(t)
	for name, nest := range nests() {
		right, wrong := whereNumber(1), api.Expr{Kind: api.Text, At: 77}
		wrong = nodeOf(api.Op, "neg", wrong)
		for range 1 << 16 {
			right, wrong = nest(right), nest(wrong)
		}
		if got := x.expr(right); got != told("num", api.OK, 0) {
			t.Errorf("%s: %s", name, got)
		}
		if got := x.expr(wrong); got != told("", api.ErrType, 77) {
			t.Errorf("%s: %s", name, got)
		}
	}
}

// Many names that are seen at once, each asked for.
func TestDeepNames(t *testing.T) {
	x := here(t)
	e := nodeOf(api.Var, "x0")
	for k := range 1 << 16 {
		e = nodeOf(api.Let, fmt.Sprint("x", k), nodeOf(api.Var, "b"), nodeOf(api.Let, "y", nodeOf(api.Var, fmt.Sprint("x", k)), e))
	}
	if got := x.expr(e); got != told("bytes", api.OK, 0) {
		t.Error(got)
	}
}

// R1: a ring of expressions, which has no end, is refused.
func TestRing(t *testing.T) {
	for _, kind := range []int{api.Let, api.If, api.Apply, api.List, api.Lambda, api.Match} {
		ring := make([]api.Expr, 3)
		for k := range ring {
			ring[k] = api.Expr{Kind: kind, Type: "num", Kids: ring, At: 5}
		}
		if got := here(t).expr(ring[0]); got == told("num", api.OK, 0) {
			t.Errorf("%d: %s", kind, got)
		}
	}
}
