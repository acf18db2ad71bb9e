package sema_test

import (
	"fmt"
	"math/rand"
	"slices"
	"strings"
	"testing"
	"unsafe"

	"hawser/api"
	"hawser/scope"
	"hawser/sema"
)

// roomy is l with room behind it, that holds x.
func roomy[E any](l []E, x E) []E { return append(slices.Clip(l), x, x)[:len(l)] }

// roomyExpr is e with room behind each list, that would be refused.
func roomyExpr(e api.Expr) api.Expr {
	for k, kid := range e.Kids {
		e.Kids[k] = roomyExpr(kid)
	}
	for k, arm := range e.Arms {
		e.Arms[k].Vars, e.Arms[k].Body = roomy(arm.Vars, "spare"), roomyExpr(arm.Body)
	}
	e.Kids = roomy(e.Kids, api.Expr{Kind: api.Var, Name: "spare", At: 9999})
	e.Arms = roomy(e.Arms, api.Arm{Case: "Spare"})
	e.Params = roomy(e.Params, api.Param{Name: "a", Type: "spare.Param"})
	return e
}

func roomyCases(cases []api.Case) []api.Case {
	for n, c := range cases {
		cases[n].Fields = roomy(c.Fields, "spare.Field")
	}
	return roomy(cases, caseOf("Spare", "num"))
}

// roomyModule is m with room behind each list, that would be refused.
func roomyModule(m api.Module) api.Module {
	for k, def := range m.Types {
		m.Types[k].Cases = roomyCases(def.Cases)
	}
	for k, def := range m.Consts {
		m.Consts[k].Body = roomyExpr(def.Body)
	}
	for k, def := range m.Funs {
		m.Funs[k].Params, m.Funs[k].Body = roomy(def.Params, api.Param{Name: "x", Type: "spare.Param"}), roomyExpr(def.Body)
	}
	m.Imports, m.Exports = roomy(m.Imports, api.Import{From: "m", Name: "spare"}), roomy(m.Exports, "spare")
	m.Types = roomy(m.Types, api.TypeDef{Name: "U", Cases: []api.Case{caseOf("A")}})
	m.Consts = roomy(m.Consts, api.ConstDef{Name: "one", Type: "bytes"})
	m.Funs = roomy(m.Funs, api.FunDef{Name: "g", Type: "num"})
	return m
}

func roomyIfaces(l []api.Iface) []api.Iface {
	for k, i := range l {
		for n, x := range i.Items {
			i.Items[n].Cases = roomyCases(x.Cases)
		}
		l[k].Items = roomy(i.Items, api.Item{Kind: api.Const, Name: "spare", Type: "num"})
	}
	return roomy(l, api.Iface{Module: "spare"})
}

// wholeExpr tells all of e, spare room included.
func wholeExpr(e api.Expr) string {
	s := fmt.Sprint(e.Kind, e.At, e.Name, e.N, e.Text, e.Type, e.Params[:cap(e.Params)], len(e.Params), len(e.Kids), len(e.Arms))
	for _, kid := range e.Kids[:cap(e.Kids)] {
		s += "(" + wholeExpr(kid) + ")"
	}
	for _, arm := range e.Arms[:cap(e.Arms)] {
		s += "{" + arm.Case + fmt.Sprint(arm.Vars[:cap(arm.Vars)], len(arm.Vars)) + wholeExpr(arm.Body) + "}"
	}
	return s
}

func wholeCases(cases []api.Case) string {
	s := fmt.Sprint(cases[:cap(cases)])
	for _, c := range cases {
		s += fmt.Sprint(c.Fields[:cap(c.Fields)])
	}
	return s
}

// whole tells all of m and l, spare room included.
func whole(m api.Module, l []api.Iface) string {
	s := fmt.Sprint(m.Name, m.Imports[:cap(m.Imports)], m.Exports[:cap(m.Exports)], m.Types[:cap(m.Types)], m.Consts[:cap(m.Consts)], m.Funs[:cap(m.Funs)], l[:cap(l)])
	for _, def := range m.Types {
		s += wholeCases(def.Cases)
	}
	for _, def := range m.Consts {
		s += wholeExpr(def.Body)
	}
	for _, def := range m.Funs {
		s += fmt.Sprint(def.Params[:cap(def.Params)]) + wholeExpr(def.Body)
	}
	for _, i := range l {
		s += fmt.Sprint(i.Items[:cap(i.Items)])
		for _, x := range i.Items {
			s += wholeCases(x.Cases)
		}
	}
	return s
}

// sources are expressions of each kind that are right, then those that are refused.
func sources() []string {
	l := []string{
		"1", `"b"`, "a", "one", "g", "n.f", "(let x b (let a x a))", "(if a (if 1 u u) (A))", "(add a (neg 1))", "(cut b 1 (len b))", "(at (cat r r) 0)", "(at ws 0)", "(array (fn () num) z z)", "(C (B 1 b) (array n.T t))",
		"(match u ((A) t) ((B x y) (n.P x)) ((C u y) (at y 0)))", "(fn ((x num) (a U)) (array U) (array U a (B x b)))", "(call (fn ((x num) (y U)) U y) 1 u)", "(call pw w)", "(g (z) (A))", "(n.h)",
	}
	for _, w := range wrongs() {
		l = append(l, w.unmarked())
	}
	return l
}

// R2, R5: Expr changes nothing that it is given, and does not read what is behind the lists' ends.
func TestExprChangesNothing(t *testing.T) {
	x := wide(t)
	for _, source := range sources() {
		want := x.expr(read(t, source))
		y := setting{roomyModule(wide(t).m), x.s, roomy(mine(), api.Param{Name: "a", Type: "spare"}), 3}
		e := roomyExpr(read(t, source))
		ahead := whole(y.m, nil) + wholeExpr(e) + fmt.Sprint(y.locals[:cap(y.locals)])
		for range 2 {
			if got := y.expr(e); got != want {
				t.Errorf("%s with spare room: %s, want %s", source, got, want)
			}
			if now := whole(y.m, nil) + wholeExpr(e) + fmt.Sprint(y.locals[:cap(y.locals)]); now != ahead {
				t.Errorf("%s: %s, was %s", source, now, ahead)
			}
		}
	}
}

// modules are sources that are right, then those that are refused at each step.
func modules() []string {
	l := []string{
		"(module m)", "(module m (import n T f c) (export f a) (type U (A) (B num)) (fun f ((x n.T) (u U)) num (match x ((n.P y) (add y n.c)) ((n.Q) (match u ((A) 1) ((B u) u))))) (const a n.T (n.f 1)))",
		"(module m (import q x))", "(module m (export x))", "(module m (const a num b) (const b num 1))", "(module m (fun f () num 1) (fun g () bytes 1) (export f))", "(module m (type T (A) (A)))", sourceM,
	}
	for _, w := range wrongs() {
		l = append(l, strings.Replace(sourceM, "(fun z () num 0)", "(fun z () num "+w.unmarked()+")"+longTypes, 1))
	}
	return l
}

// R2, R5: Module changes nothing that it is given, and does not read what is behind the lists' ends.
func TestModuleChangesNothing(t *testing.T) {
	for _, source := range modules() {
		want := toldModule(sema.Module(parsed(t, source), others(t)))
		m, l := roomyModule(parsed(t, source)), roomyIfaces(others(t))
		ahead := whole(m, l)
		for range 2 {
			if got := toldModule(sema.Module(m, l)); got != want {
				t.Errorf("%s with spare room: %s, want %s", source, got, want)
			}
			if now := whole(m, l); now != ahead {
				t.Errorf("%s: %s, was %s", source, now, ahead)
			}
		}
	}
}

// R2: the Scope that is handed in answers as it did.
func TestScopeStays(t *testing.T) {
	x := wide(t)
	tell := func() (s string) {
		for _, name := range strings.Fields("one two g z n.c n.f n.h k.c q A B C n.P n.R k.P Z m.U n.T n.V k.T k.W num") {
			item, isValue := x.s.Value(name)
			owner, number, c, isCase := x.s.Case(name)
			cases, isType := x.s.Cases(name)
			s += fmt.Sprintln(item, isValue, owner, number, c, isCase, cases, isType, x.s.Known(name))
		}
		return s
	}
	ahead := tell()
	for _, source := range sources() {
		x.expr(read(t, source))
		if now := tell(); now != ahead {
			t.Fatalf("%s: %s, was %s", source, now, ahead)
		}
	}
}

// textsOf are all texts of an expression.
func textsOf(e api.Expr) []string {
	l := []string{e.Name, e.Text, e.Type}
	for _, param := range e.Params {
		l = append(l, param.Name, param.Type)
	}
	for _, kid := range e.Kids {
		l = append(l, textsOf(kid)...)
	}
	for _, arm := range e.Arms {
		l = append(append(append(l, arm.Case), arm.Vars...), textsOf(arm.Body)...)
	}
	return l
}

// textsOfAll are all texts of a module and of interfaces.
func textsOfAll(m api.Module, l []api.Iface) []string {
	texts := append([]string{m.Name}, m.Exports...)
	ofCases := func(cases []api.Case) {
		for _, c := range cases {
			texts = append(append(texts, c.Name), c.Fields...)
		}
	}
	for _, one := range m.Imports {
		texts = append(texts, one.From, one.Name)
	}
	for _, def := range m.Types {
		texts = append(texts, def.Name)
		ofCases(def.Cases)
	}
	for _, def := range m.Consts {
		texts = append(append(texts, def.Name, def.Type), textsOf(def.Body)...)
	}
	for _, def := range m.Funs {
		texts = append(append(texts, def.Name, def.Type), textsOf(def.Body)...)
		for _, param := range def.Params {
			texts = append(texts, param.Name, param.Type)
		}
	}
	for _, i := range l {
		texts = append(texts, i.Module)
		for _, item := range i.Items {
			texts = append(texts, item.Name, item.Type)
			ofCases(item.Cases)
		}
	}
	return texts
}

// wantNoPiece: a text that is answered is no piece of one that was handed in.
func wantNoPiece(t *testing.T, piece string, given []string) {
	t.Helper()
	for _, whole := range given {
		from, at := uintptr(unsafe.Pointer(unsafe.StringData(whole))), uintptr(unsafe.Pointer(unsafe.StringData(piece)))
		if piece != "" && from <= at && at < from+uintptr(len(whole)) {
			t.Errorf("%q is a piece of what was handed in", piece)
		}
	}
}

// R2: no text of what is handed in is answered.
func TestTextsAreNew(t *testing.T) {
	x := wide(t)
	for k, param := range x.locals {
		x.locals[k].Type = strings.Clone(param.Type)
	}
	for _, source := range sources() {
		e := read(t, source)
		given := append(textsOf(e), textsOfAll(x.m, nil)...)
		for _, param := range x.locals {
			given = append(given, param.Name, param.Type)
		}
		for _, name := range []string{"one", "two", "g", "z", "n.f", "n.h"} {
			item, _ := x.s.Value(name)
			given = append(given, item.Type)
		}
		typed, _, _ := sema.Expr(x.s, x.locals, x.consts, x.m, e)
		wantNoPiece(t, typed, given)
	}
	for _, source := range modules() {
		m, l := parsed(t, source), others(t)
		_, _, name := sema.Module(m, l)
		wantNoPiece(t, name, textsOfAll(m, l))
	}
}

// R3: a refused call leaves nothing behind for a later one.
func TestRefusedLeavesNothing(t *testing.T) {
	x := wide(t)
	want := make([]string, len(sources()))
	for k, source := range sources() {
		want[k] = x.expr(read(t, source))
	}
	for _, w := range wrongs() {
		x.wantRefused(t, w.source(), w.why)
		for k, source := range sources() {
			if got := x.expr(read(t, source)); got != want[k] {
				t.Fatalf("%s behind %s: %s, was %s", source, w.marked, got, want[k])
			}
		}
	}
}

// emptied is e with empty lists for those that are nil, or the other way round.
func emptied(e api.Expr, none bool) api.Expr {
	kids, arms, params := []api.Expr{}, []api.Arm{}, append([]api.Param{}, e.Params...)
	for _, kid := range e.Kids {
		kids = append(kids, emptied(kid, none))
	}
	for _, arm := range e.Arms {
		vars := append([]string{}, arm.Vars...)
		if len(vars) == 0 && none {
			vars = nil
		}
		arms = append(arms, api.Arm{Case: arm.Case, Vars: vars, Body: emptied(arm.Body, none)})
	}
	if len(kids) == 0 && none {
		kids = nil
	}
	if len(arms) == 0 && none {
		arms = nil
	}
	if len(params) == 0 && none {
		params = nil
	}
	e.Kids, e.Arms, e.Params = kids, arms, params
	return e
}

// R4: empty lists mean the same as none.
func TestEmptyLists(t *testing.T) {
	x := wide(t)
	for _, source := range sources() {
		e := read(t, source)
		want := x.expr(e)
		for _, none := range []bool{true, false} {
			if got := x.expr(emptied(e, none)); got != want {
				t.Errorf("%s: %s, want %s", source, got, want)
			}
		}
		y, z := x, x
		y.locals, z.locals = nil, []api.Param{}
		if y.expr(e) != z.expr(e) {
			t.Errorf("%s: %s, %s", source, y.expr(e), z.expr(e))
		}
	}
	empty := api.Module{Name: "m", Imports: []api.Import{}, Exports: []string{}, Types: []api.TypeDef{}, Consts: []api.ConstDef{}, Funs: []api.FunDef{}}
	wantModule(t, empty, []api.Iface{}, api.OK, 0, "")
	empty.Funs = []api.FunDef{{Name: "f", Params: []api.Param{}, Type: "num", Body: api.Expr{Kind: api.Number, Kids: []api.Expr{}, Arms: []api.Arm{}, Params: []api.Param{}}}}
	wantModule(t, empty, nil, api.OK, 0, "")
}

// byHand is an expression that nothing makes: of any Kind, with any Kids, Arms and Params.
func byHand(r *rand.Rand, deep int) api.Expr {
	texts := []string{"", "a", "b", "x", "A", "B", "n.P", "num", "bytes", "[num]", "(num)num", "g", "one", "add", "neg", "cut", "eq", "at", "cat", "nothing", "\xff", "m.U", "(", strings.Repeat("[", 300)}
	one := func() string { return texts[r.Intn(len(texts))] }
	e := api.Expr{Kind: r.Intn(15) - 1, At: r.Intn(100) - 50, Name: one(), Text: one(), Type: one()}
	if r.Intn(50) == 0 {
		e.Kind = []int{-1 << 63, 1<<63 - 1, api.Call + 256, 1<<32 + 1}[r.Intn(4)]
	}
	for range r.Intn(5) {
		e.Params = append(e.Params, api.Param{Name: one(), Type: one()})
	}
	if deep > 0 {
		for range r.Intn(4) {
			e.Kids = append(e.Kids, byHand(r, deep-1))
		}
		for range r.Intn(3) {
			e.Arms = append(e.Arms, api.Arm{Case: one(), Vars: texts[:r.Intn(4)], Body: byHand(r, deep-1)})
		}
	}
	return e
}

// R1: expressions, modules and locals that nothing makes; beside a refusal there is no type.
func TestAnything(t *testing.T) {
	r := rand.New(rand.NewSource(1))
	x := here(t)
	for range 15000 {
		e := byHand(r, 3)
		locals := append(mine(), byHand(r, 0).Params...)
		typed, why, place := sema.Expr(x.s, locals, r.Intn(6)-1, x.m, e)
		if why != api.OK && typed != "" || why == api.OK && place != 0 {
			t.Fatalf("%s: %s", wholeExpr(e), told(typed, why, place))
		}
		m := api.Module{Name: "m", Consts: []api.ConstDef{{Name: "a", Type: "num", Body: e}}, Funs: []api.FunDef{{Name: "b", Type: "num", Body: byHand(r, 2)}}}
		sema.Module(m, nil)
		sema.Expr(x.s, nil, 1, m, e)
		sema.Expr(&scope.Scope{}, locals, 1, m, e)
	}
	for kind := -3; kind < 20; kind++ {
		x.expr(api.Expr{Kind: kind})
		x.expr(api.Expr{Kind: kind, Kids: make([]api.Expr, 1)})
		x.expr(api.Expr{Kind: kind, Arms: make([]api.Arm, 1), Params: make([]api.Param, 1), Kids: []api.Expr{{Kind: api.Var, Name: "u"}}})
	}
	sema.Module(api.Module{}, nil)
	sema.Module(api.Module{Exports: []string{""}, Imports: make([]api.Import, 1)}, make([]api.Iface, 1))
}

// P9.1: locals whose types are none, or longer than one may be: they are like themselves alone.
func TestOddLocals(t *testing.T) {
	huge := strings.Repeat("[", 100) + "num" + strings.Repeat("]", 100)
	for _, typed := range []string{"", "x", "m.", "Num", "(num)", "[num", huge, "(" + huge + ")num", "\xff", "num "} {
		x := here(t).with(api.Param{Name: "x", Type: typed}, api.Param{Name: "y", Type: typed})
		for _, source := range []string{"x", "(let z x z)", "(if 1 x y)", "(match t ((n.P z) x) ((n.Q) y))"} {
			x.wantType(t, source, typed)
		}
		for _, marked := range []string{"(len @x)", "(neg @x)", "(eq @x y)", "(cat @x y)", "(at @x 0)", "(cut @x 0 0)", "(if @x 1 1)", "(call @x)", "(match @x ((A) 1))", "(array num @x)", "(B @x b)", "(fn () num @x)", "(g @x u)", "@(if 1 x b)"} {
			x.wantRefused(t, marked, api.ErrType)
		}
	}
	longest := strings.Repeat("[", 98) + "num" + strings.Repeat("]", 98)
	x := here(t).with(api.Param{Name: "x", Type: longest}, api.Param{Name: "", Type: "num"})
	x.wantTypes(t, map[string]string{"x": longest, "(cat x x)": longest, "(at x 0)": longest[1 : len(longest)-1], "(len x)": "num", "(fn () num (let y x 1))": "()num"})
}
