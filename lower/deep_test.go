package lower_test

import (
	"fmt"
	"math/rand"
	"slices"
	"strings"
	"testing"

	"hawser/api"
	"hawser/lower"
)

func one() api.Expr { return api.Expr{Kind: api.Number, N: 1} }

func nodeOf(kind int, name string, kids ...api.Expr) api.Expr {
	return api.Expr{Kind: kind, Name: name, Kids: kids}
}

// nests are expressions of type num around one that is, with how they are refused when they are nested too deep.
func nests() map[string]struct {
	why    api.Errno
	around func(e api.Expr) api.Expr
} {
	type nest = struct {
		why    api.Errno
		around func(e api.Expr) api.Expr
	}
	return map[string]nest{
		"let's first": {api.ErrLong, func(e api.Expr) api.Expr { return nodeOf(api.Let, "x", e, one()) }},
		"let's last":  {api.ErrMany, func(e api.Expr) api.Expr { return nodeOf(api.Let, "x", one(), e) }},
		"if's first":  {api.ErrLong, func(e api.Expr) api.Expr { return nodeOf(api.If, "", e, one(), one()) }},
		"if's last":   {api.ErrLong, func(e api.Expr) api.Expr { return nodeOf(api.If, "", one(), one(), e) }},
		"op":          {api.ErrStack, func(e api.Expr) api.Expr { return nodeOf(api.Op, "add", one(), e) }},
		"op's first":  {api.ErrLong, func(e api.Expr) api.Expr { return nodeOf(api.Op, "add", e, one()) }},
		"list": {api.ErrLong, func(e api.Expr) api.Expr {
			return nodeOf(api.Op, "len", api.Expr{Kind: api.List, Type: "num", Kids: []api.Expr{e}})
		}},
		"make": {api.ErrLong, func(e api.Expr) api.Expr {
			return api.Expr{Kind: api.Match, Kids: []api.Expr{nodeOf(api.Make, "A", e)}, Arms: []api.Arm{{Case: "A", Vars: []string{"x"}, Body: one()}}}
		}},
		"match": {api.ErrMany, func(e api.Expr) api.Expr {
			return api.Expr{Kind: api.Match, Kids: []api.Expr{nodeOf(api.Make, "A", one())}, Arms: []api.Arm{{Case: "A", Vars: []string{"x"}, Body: e}}}
		}},
		"apply": {api.ErrStack, func(e api.Expr) api.Expr { return nodeOf(api.Apply, "", nodeOf(api.Var, "g"), e) }},
		"call":  {api.ErrLong, func(e api.Expr) api.Expr { return nodeOf(api.Call, "g", e) }},
	}
}

// moduleOf has a type, a function, and one of that body.
func moduleOf(t *testing.T, body api.Expr) api.Module {
	m := read(t, "(module m (type T (A num)) (fun g ((x num)) num x) (fun f () num 1))")
	m.Funs[1].Body = body
	return m
}

// The limits: 2^16 parts nested in one another are refused as any others.
func TestDeep(t *testing.T) {
	t.Parallel()
	for name, nest := range nests() {
		body := one()
		for range 1 << 16 {
			body = nest.around(body)
		}
		if o, why := lower.Module(moduleOf(t, body), nil); why == api.OK || !slices.Contains([]api.Errno{nest.why, api.ErrMany, api.ErrStack, api.ErrLong}, why) || o.Module != "" {
			t.Errorf("%s: %v, want %v", name, why, nest.why)
		}
	}
	lambdas := one()
	for range 1 << 12 {
		lambdas = nodeOf(api.Apply, "", api.Expr{Kind: api.Lambda, Type: "num", Kids: []api.Expr{lambdas}})
	}
	if _, why := lower.Module(moduleOf(t, lambdas), nil); why != api.ErrMany {
		t.Errorf("Lambdas: %v", why)
	}
}

// The same, a few deep, so that they are not refused.
func TestNests(t *testing.T) {
	for _, nest := range nests() {
		body := one()
		for range 20 {
			body = nest.around(body)
			wantObject(t, moduleOf(t, body), nil)
		}
	}
}

// Many expressions side by side.
func TestWide(t *testing.T) {
	m := moduleOf(t, api.Expr{Kind: api.List, Type: "num", Kids: slices.Repeat([]api.Expr{one()}, 1<<20)})
	m.Funs[1].Type = "[num]"
	if _, why := lower.Module(m, nil); why == api.OK {
		t.Error("a List of 2^20")
	}
}

// R1: a ring of expressions, which has no end, is refused.
func TestRing(t *testing.T) {
	t.Parallel()
	for kind := range api.Call + 1 {
		ring := make([]api.Expr, 3)
		for k := range ring {
			ring[k] = api.Expr{Kind: kind, Name: "add", Type: "num", Kids: ring, Arms: []api.Arm{{Case: "A", Body: one()}}}
		}
		wantNone(t, moduleOf(t, ring[0]))
		m := moduleOf(t, one())
		m.Consts = []api.ConstDef{{Name: "c", Type: "num", Body: ring[0]}}
		wantNone(t, m)
		arms := []api.Arm{{Case: "A", Vars: []string{"x"}}}
		arms[0].Body = api.Expr{Kind: kind, Kids: []api.Expr{nodeOf(api.Make, "A", one())}, Arms: arms}
		wantNone(t, moduleOf(t, arms[0].Body))
	}
}

func wantNone(t *testing.T, m api.Module) {
	t.Helper()
	if o, why := lower.Module(m, nil); why == api.OK || o.Module != "" || o.Funs != nil {
		t.Errorf("%v, %+v", why, o)
	}
}

// byHand is an expression that nothing makes: of any Kind, with any Kids, Arms and Params.
func byHand(r *rand.Rand, deep int) api.Expr {
	texts := []string{"", "a", "b", "x", "A", "B", "n.P", "num", "bytes", "[num]", "(num)num", "()num", "m.T", "g", "add", "neg", "cut", "eq", "at", "cat", "len", "nothing", "\xff", "n.T", "n.c", "n.f", "(", strings.Repeat("[", 300)}
	some := func() string { return texts[r.Intn(len(texts))] }
	e := api.Expr{Kind: r.Intn(14), At: r.Intn(100) - 50, Name: some(), Text: some(), Type: some(), N: []complex128{0, 1, 0.5, 1 << 30}[r.Intn(4)]}
	if r.Intn(50) == 0 {
		e.Kind = []int{-1 << 63, 1<<63 - 1, api.Call + 256, 1<<32 + 1}[r.Intn(4)]
	}
	for range r.Intn(4) {
		e.Params = append(e.Params, api.Param{Name: some(), Type: some()})
	}
	if deep > 0 {
		for range r.Intn(4) {
			e.Kids = append(e.Kids, byHand(r, deep-1))
		}
		for range r.Intn(3) {
			e.Arms = append(e.Arms, api.Arm{Case: some(), Vars: texts[:r.Intn(4)], Body: byHand(r, deep-1)})
		}
	}
	return e
}

// turn changes something in an expression that parse has made.
func turn(r *rand.Rand, e *api.Expr) {
	switch r.Intn(8) {
	case 0:
		e.Kind = r.Intn(14)
	case 1:
		e.Kids = append(e.Kids, byHand(r, 1))
	case 2:
		e.Kids = e.Kids[:len(e.Kids)/2]
	case 3:
		e.Arms = append(e.Arms, e.Arms...)
	case 4:
		e.Text, e.N = strings.Repeat("x", 300), 0.5
	case 5:
		e.Params = append(e.Params, api.Param{Name: "x", Type: "num"})
	default:
		if len(e.Kids) > 0 {
			turn(r, &e.Kids[r.Intn(len(e.Kids))])
		}
		if len(e.Arms) > 0 {
			turn(r, &e.Arms[r.Intn(len(e.Arms))].Body)
		}
	}
}

// R1: modules and interfaces that nothing makes; beside a refusal there is no object.
func TestAnything(t *testing.T) {
	t.Parallel()
	r := rand.New(rand.NewSource(1))
	end := func(m api.Module, l []api.Iface) {
		if o, why := lower.Module(m, l); why != api.OK && (o.Module != "" || o.Funs != nil || o.Symbols != nil) {
			t.Fatalf("%v, %+v", why, o)
		}
	}
	for range 1500 {
		m := moduleOf(t, byHand(r, 3))
		m.Imports = []api.Import{{From: "n", Name: "T"}, {From: "n", Name: "c"}, {From: "n", Name: "f"}}
		end(m, others())
		m = read(t, everything)
		turn(r, &m.Funs[r.Intn(len(m.Funs))].Body)
		turn(r, &m.Consts[r.Intn(len(m.Consts))].Body)
		end(m, others())
		l := others()
		n := r.Intn(5)
		l[0].Items[n] = []api.Item{{}, {Kind: 9, Name: "c", Type: "num"}, typeItem("T", caseOf("P", "num"), caseOf("P", "num"), caseOf("Q")), typeItem("T", slices.Repeat([]api.Case{caseOf("")}, 300)...), typeItem("c", caseOf("P", slices.Repeat([]string{"num"}, 300)...)), funItem("f", "num"), funItem("f", "("), constItem("T", strings.Repeat("[", 500))}[r.Intn(8)]
		end(read(t, everything), l)
	}
	for kind := -3; kind < 20; kind++ {
		end(moduleOf(t, api.Expr{Kind: kind}), nil)
		end(moduleOf(t, api.Expr{Kind: kind, Kids: make([]api.Expr, 1)}), nil)
		end(moduleOf(t, api.Expr{Kind: kind, Arms: make([]api.Arm, 1), Kids: []api.Expr{one(), one(), one()}}), nil)
	}
	end(api.Module{}, nil)
	end(api.Module{Exports: []string{""}, Imports: make([]api.Import, 1)}, make([]api.Iface, 1))
	end(api.Module{Name: "m", Funs: make([]api.FunDef, 100), Consts: make([]api.ConstDef, 100), Types: make([]api.TypeDef, 100)}, nil)
	many := api.Module{Name: "m"}
	for k := range 100 {
		many.Funs = append(many.Funs, api.FunDef{Name: fmt.Sprint("f", k), Type: "()num", Body: api.Expr{Kind: api.Lambda, Type: "num", Kids: []api.Expr{one()}}})
		many.Types = append(many.Types, api.TypeDef{Name: fmt.Sprint("T", k), Cases: []api.Case{caseOf(fmt.Sprint("A", k))}})
		end(many, nil)
	}
	wide := read(t, "(module m (fun f () num 1))")
	wide.Funs[0].Params = slices.Repeat([]api.Param{{Name: "x", Type: "num"}}, 300)
	end(wide, nil)
}
