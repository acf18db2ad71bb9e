package capture_test

import (
	"fmt"
	"testing"

	"hawser/api"
	"hawser/capture"
)

func nodeOf(kind int, name string, kids ...api.Expr) api.Expr {
	return api.Expr{Kind: kind, Name: name, Kids: kids}
}

func matchOf(e api.Expr, vars []string, body api.Expr) api.Expr {
	return api.Expr{Kind: api.Match, Kids: []api.Expr{e}, Arms: []api.Arm{{Case: "A", Vars: vars, Body: body}}}
}

func lambdaOf(e api.Expr) api.Expr {
	return api.Expr{Kind: api.Lambda, Type: "num", Params: []api.Param{{Name: "x", Type: "num"}}, Kids: []api.Expr{e}}
}

// nest is an expression around another one: how many there are in it beside that one, how many places it needs beside that one's, and whether it binds x there.
type nest struct {
	around         func(e api.Expr) api.Expr
	others, locals int
	binds, forgets bool
}

func nests() map[string]nest {
	one := nodeOf(api.Number, "")
	vars := []string{"x", "y"}
	return map[string]nest{
		"let's first":  {func(e api.Expr) api.Expr { return nodeOf(api.Let, "x", e, one) }, 2, 0, false, false},
		"let's last":   {func(e api.Expr) api.Expr { return nodeOf(api.Let, "x", one, e) }, 2, 1, true, false},
		"if":           {func(e api.Expr) api.Expr { return nodeOf(api.If, "", one, e, one) }, 3, 0, false, false},
		"op":           {func(e api.Expr) api.Expr { return nodeOf(api.Op, "add", one, e) }, 2, 0, false, false},
		"list":         {func(e api.Expr) api.Expr { return nodeOf(api.List, "", e) }, 1, 0, false, false},
		"make":         {func(e api.Expr) api.Expr { return nodeOf(api.Make, "Q", e) }, 1, 0, false, false},
		"match's kid":  {func(e api.Expr) api.Expr { return matchOf(e, nil, one) }, 2, 0, false, false},
		"match's body": {func(e api.Expr) api.Expr { return matchOf(one, vars, e) }, 2, 2, true, false},
		"lambda":       {lambdaOf, 1, 0, true, true},
		"apply":        {func(e api.Expr) api.Expr { return nodeOf(api.Apply, "", e, one) }, 2, 0, false, false},
		"call":         {func(e api.Expr) api.Expr { return nodeOf(api.Call, "f", e) }, 1, 0, false, false},
	}
}

// The limits: 2^16 parts nested in one another.
func TestDeep(t *testing.T) {
	const deep = 1<<16 - 3
	for name, n := range nests() {
		e := nodeOf(api.Let, "z", nodeOf(api.Var, "y0"), nodeOf(api.Op, "add", nodeOf(api.Var, "x"), nodeOf(api.Var, "w")))
		free, locals := []string{"y0", "x", "w"}, 1+deep*n.locals
		if n.binds {
			free = []string{"y0", "w"}
		}
		if n.forgets {
			locals = 0
		}
		for range deep {
			e = n.around(e)
		}
		if got, want := answers(e), told(free, locals, deep+3, deep*n.others+5); got != want {
			t.Errorf("%s: %s, want %s", name, got, want)
		}
	}
}

// Many names that are bound at once, each asked for where it is bound, and again where it is not.
func TestDeepNames(t *testing.T) {
	const deep = 1 << 14
	e := nodeOf(api.Var, "last")
	var free []string
	for k := range deep {
		name := nodeOf(api.Var, fmt.Sprint("x", k))
		e = nodeOf(api.Op, "add", nodeOf(api.Let, name.Name, nodeOf(api.Number, ""), nodeOf(api.Op, "add", name, e)), name)
	}
	free = append(free, "last")
	for k := range deep {
		free = append(free, fmt.Sprint("x", k))
	}
	if got, want := answers(e), told(free, deep, 3*deep+1, 6*deep+1); got != want {
		t.Errorf("%.100s, want %.100s", got, want)
	}
}

// rings are expressions that stand in themselves.
func rings() (l []api.Expr) {
	for _, kind := range []int{0, api.Var, api.Let, api.If, api.Op, api.List, api.Make, api.Match, api.Lambda, api.Apply, api.Call} {
		for size := range 3 {
			ring := make([]api.Expr, size+1)
			for k := range ring {
				ring[k] = api.Expr{Kind: kind, Name: "x", Kids: ring, Params: []api.Param{{Name: "y"}}}
			}
			l = append(l, ring[0])
			arms := make([]api.Arm, size+1)
			for k := range arms {
				arms[k] = api.Arm{Case: "A", Vars: []string{"x"}, Body: api.Expr{Kind: kind, Name: "x", Arms: arms}}
			}
			l = append(l, arms[0].Body)
		}
	}
	return l
}

// R1: every call ends, of a ring too, of which nothing is told.
func TestRing(t *testing.T) {
	for _, e := range rings() {
		if got := answers(e); got != told(nil, 0, 0, 0) {
			t.Errorf("%d, %d Kids, %d Arms: %s", e.Kind, len(e.Kids), len(e.Arms), got)
		}
	}
}

// A list that stands in an expression many times over counts as often.
func TestShared(t *testing.T) {
	e := nodeOf(api.Var, "x")
	for k := range 16 {
		e = nodeOf(api.Let, fmt.Sprint("y", k), e, e)
	}
	if got, want := answers(e), told([]string{"x"}, 16, 17, 1<<17-1); got != want {
		t.Errorf("%s, want %s", got, want)
	}
}

// R1: every call ends, of more expressions than may be given too.
func TestTooMany(t *testing.T) {
	e := nodeOf(api.Var, "x")
	for range 64 {
		e = nodeOf(api.Let, "y", e, e)
	}
	for name, call := range map[string]func() int{
		"Free":   func() int { return len(capture.Free(e)) },
		"Locals": func() int { return capture.Locals(e) },
		"Depth":  func() int { return capture.Depth(e) },
		"Count":  func() int { return capture.Count(e) },
	} {
		t.Run(name, func(t *testing.T) {
			t.Parallel()
			if got := call(); got != 0 {
				t.Error(got)
			}
		})
	}
}
