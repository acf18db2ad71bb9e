package mean_test

import (
	"fmt"
	"testing"

	"hawser/api"
	"hawser/mean"
)

func numberOf(n complex128) api.Expr { return api.Expr{Kind: api.Number, N: n} }

func nodeOf(kind int, name string, kids ...api.Expr) api.Expr {
	return api.Expr{Kind: kind, Name: name, Kids: kids}
}

func matchOf(e api.Expr, name string, vars []string, body api.Expr) api.Expr {
	return api.Expr{Kind: api.Match, Kids: []api.Expr{e}, Arms: []api.Arm{{Case: name, Vars: vars, Body: body}}}
}

// nest is an expression around another one that gives 1: how many are begun in it beside that one, and how many calls are open in it.
type nest struct {
	around      func(e api.Expr) api.Expr
	begun, open int
}

func nests() map[string]nest {
	one := numberOf(1)
	return map[string]nest{
		"let's first":  {func(e api.Expr) api.Expr { return nodeOf(api.Let, "x", e, nodeOf(api.Var, "x")) }, 2, 0},
		"let's last":   {func(e api.Expr) api.Expr { return nodeOf(api.Let, "x", one, e) }, 2, 0},
		"if's first":   {func(e api.Expr) api.Expr { return nodeOf(api.If, "", e, one, numberOf(2)) }, 2, 0},
		"if's second":  {func(e api.Expr) api.Expr { return nodeOf(api.If, "", one, e, numberOf(2)) }, 2, 0},
		"if's third":   {func(e api.Expr) api.Expr { return nodeOf(api.If, "", numberOf(0), numberOf(2), e) }, 2, 0},
		"op's first":   {func(e api.Expr) api.Expr { return nodeOf(api.Op, "mul", e, one) }, 2, 0},
		"op's last":    {func(e api.Expr) api.Expr { return nodeOf(api.Op, "mul", one, e) }, 2, 0},
		"list":         {func(e api.Expr) api.Expr { return nodeOf(api.Op, "len", listOf(e)) }, 2, 0},
		"make":         {func(e api.Expr) api.Expr { return matchOf(nodeOf(api.Make, "Q", e), "Q", []string{"x"}, one) }, 3, 0},
		"match's body": {func(e api.Expr) api.Expr { return matchOf(nodeOf(api.Make, "Q", one), "Q", []string{"x"}, e) }, 3, 0},
		"lambda":       {func(e api.Expr) api.Expr { return nodeOf(api.Apply, "", lambdaOf(e), one) }, 3, 1},
		"apply":        {func(e api.Expr) api.Expr { return nodeOf(api.Apply, "", nodeOf(api.Var, "g"), e) }, 3, 0},
		"call":         {func(e api.Expr) api.Expr { return nodeOf(api.Call, "g", e) }, 2, 0},
	}
}

func listOf(e api.Expr) api.Expr { return api.Expr{Kind: api.List, Type: "num", Kids: []api.Expr{e}} }

func lambdaOf(e api.Expr) api.Expr {
	return api.Expr{Kind: api.Lambda, Type: "num", Params: []api.Param{{Name: "x", Type: "num"}}, Kids: []api.Expr{e}}
}

// moduleOf is one whose function f has that body.
func moduleOf(t *testing.T, body api.Expr) []api.Module {
	l := readAll(t, "(module m (export f) (type Q (Q num)) (fun g ((x num)) num x) (fun f () num 1))")
	l[0].Funs[1].Body = body
	return l
}

// The limits: 2^16 parts nested in one another.
func TestDeep(t *testing.T) {
	t.Parallel()
	const deep = 1<<16 - 1
	for name, n := range nests() {
		e := numberOf(1)
		for range deep {
			e = n.around(e)
		}
		p := program{moduleOf(t, e), "m.f", nil, 1 << 22}
		if n.open > 0 {
			p.wantEnd(t, api.ErrDepth, 999*n.begun+n.begun)
			continue
		}
		if got, want := p.run(), ok(num(1), 1+deep*n.begun); got != want {
			t.Errorf("%s: %s, want %s", name, got, want)
		}
	}
}

// R1: calls within calls of bodies that are deep leave much to do.
func TestDeepCalls(t *testing.T) {
	e := nodeOf(api.Call, "f")
	for range 1 << 14 {
		e = nodeOf(api.Op, "add", numberOf(1), e)
	}
	program{moduleOf(t, e), "m.f", nil, 1 << 20}.wantEnd(t, api.ErrFuel, 1<<20)
}

// Many names that are seen at once.
func TestDeepNames(t *testing.T) {
	const deep = 1 << 12
	e := nodeOf(api.Var, "x0")
	for k := range deep {
		e = nodeOf(api.Let, fmt.Sprint("x", k), numberOf(complex(float64(k), 1)), e)
	}
	program{moduleOf(t, e), "m.f", nil, 1 << 22}.wantValue(t, num(1i), 1+2*deep)
}

// A value may be far deeper than what is answered of one.
func TestDeepValues(t *testing.T) {
	const grow = "(type T (Z) (S T)) (fun g ((n num) (t T)) T (if n (g (sub n 1) (g (sub n 1) t)) (S t))) "
	inModule(t, grow+"(fun f ((n num)) T (g n (Z)))", num(14)).wantEnd(t, api.ErrHeap, 2+1+16383*11+16384*4)
	inModule(t, grow+"(fun f ((n num)) num (match (g n (Z)) ((Z) 0) ((S t) 1)))", num(14)).wantValue(t, num(1), 3+1+16383*11+16384*4+1)
}

// Programs that make long ones at every step need neither much time nor much room for it.
func TestLongAtEveryStep(t *testing.T) {
	t.Parallel()
	const source = "(type T (N) (P (array (array num)) (array bytes) T T)) (fun g ((n num)) T (if n (P (array (array num) (cat l l) (cat l l) (cat l l) (cat l l)) (array bytes (cat b b) (cat b b) (cat b b)) (g (sub n 1)) (g (sub n 1))) (N))) (fun f () T (g 40))"
	p := inModule(t, longOnes+source)
	p.fuel = 1 << 21
	p.wantEnd(t, api.ErrFuel, 1<<21)
}

// R1: every call ends, of a ring of expressions too.
func TestRing(t *testing.T) {
	t.Parallel()
	for _, kind := range []int{0, api.Var, api.Let, api.If, api.Op, api.List, api.Make, api.Match, api.Lambda, api.Apply, api.Call} {
		ring := make([]api.Expr, 3)
		for k := range ring {
			ring[k] = api.Expr{Kind: kind, Name: "g", Type: "num", Kids: ring}
		}
		wantWhy(t, fmt.Sprint("a ring of ", kind), moduleOf(t, ring[0]), "m.f", nil, api.ErrArg)
		l := moduleOf(t, numberOf(1))
		l[0].Consts = []api.ConstDef{{Name: "c", Type: "num", Body: ring[0]}}
		wantWhy(t, fmt.Sprint("a ring of ", kind, " in a const"), l, "m.f", nil, api.ErrArg)
	}
}

// R1: every call ends, of more expressions than may be given too.
func TestTooMany(t *testing.T) {
	for name, put := range map[string]func(m *api.Module, e api.Expr){
		"a function": func(m *api.Module, e api.Expr) { m.Funs[1].Body = e },
		"a const":    func(m *api.Module, e api.Expr) { m.Consts = []api.ConstDef{{Name: "c", Type: "num", Body: e}} },
	} {
		t.Run(name, func(t *testing.T) {
			t.Parallel()
			e := numberOf(0)
			for range 64 {
				e = nodeOf(api.Op, "add", e, e)
			}
			l := moduleOf(t, numberOf(1))
			put(&l[0], e)
			if a, begun := mean.Run(l, "m.f", nil, plenty); a.Why != api.ErrArg || begun != 0 {
				t.Error(a.Why, begun)
			}
		})
	}
}

// R1: whatever is handed in by hand, Run ends.
func TestOddModules(t *testing.T) {
	for kind := -1; kind < 15; kind++ {
		for kids := range 5 {
			for _, name := range []string{"", "x", "g", "f", "Q", "add", "cut", "at", "len", "nothing"} {
				e := api.Expr{Kind: kind, Name: name, Type: "num", Text: "t"}
				for range kids {
					e.Kids = append(e.Kids, numberOf(1))
				}
				for range kids % 3 {
					e.Params = append(e.Params, api.Param{Name: "x", Type: "num"})
					e.Arms = append(e.Arms, api.Arm{Case: "Q", Vars: []string{"x"}, Body: numberOf(1)})
				}
				mean.Run(moduleOf(t, e), "m.f", nil, 100)
				if kids > 0 && kind == api.Match {
					e.Kids[0] = nodeOf(api.Make, "Q", numberOf(1))
					mean.Run(moduleOf(t, e), "m.f", nil, 100)
				}
				if kids > 0 && kind == api.Apply {
					e.Kids[0] = nodeOf(api.Var, "g")
					mean.Run(moduleOf(t, e), "m.f", nil, 100)
				}
			}
		}
	}
	mean.Run(make([]api.Module, 3), "", make([]api.Value, 9), 5)
	mean.Run([]api.Module{{Name: "m", Types: make([]api.TypeDef, 1), Consts: make([]api.ConstDef, 1), Funs: make([]api.FunDef, 1), Imports: make([]api.Import, 1), Exports: make([]string, 1)}}, "m.", nil, 5)
}
