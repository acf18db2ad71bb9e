package lower_test

import (
	"fmt"
	"reflect"
	"slices"
	"strings"
	"testing"
	"unsafe"

	"hawser/api"
	"hawser/lower"
	"hawser/object"
)

// roomy is l with room behind it, that holds x.
func roomy[E any](l []E, x E) []E { return append(slices.Clip(l), x, x)[:len(l)] }

// roomyExpr is e with room behind each list, that would be refused.
func roomyExpr(e api.Expr) api.Expr {
	for k, kid := range e.Kids {
		e.Kids[k] = roomyExpr(kid)
	}
	for k, arm := range e.Arms {
		e.Arms[k].Vars, e.Arms[k].Body = roomy(arm.Vars, "spare"), roomyExpr(arm.Body)
	}
	e.Kids = roomy(e.Kids, api.Expr{Kind: api.Var, Name: "spare"})
	e.Arms = roomy(e.Arms, api.Arm{Case: "Spare"})
	e.Params = roomy(e.Params, api.Param{Name: "x", Type: "spare.Param"})
	return e
}

func roomyCases(cases []api.Case) []api.Case {
	for n, c := range cases {
		cases[n].Fields = roomy(c.Fields, "spare.Field")
	}
	return roomy(cases, caseOf("Spare", "num"))
}

func roomyModule(m api.Module) api.Module {
	for k, def := range m.Types {
		m.Types[k].Cases = roomyCases(def.Cases)
	}
	for k, def := range m.Consts {
		m.Consts[k].Body = roomyExpr(def.Body)
	}
	for k, def := range m.Funs {
		m.Funs[k].Params, m.Funs[k].Body = roomy(def.Params, api.Param{Name: "x", Type: "spare.Param"}), roomyExpr(def.Body)
	}
	m.Imports, m.Exports = roomy(m.Imports, api.Import{From: "m", Name: "spare"}), roomy(m.Exports, "spare")
	m.Types = roomy(m.Types, api.TypeDef{Name: "Spare", Cases: []api.Case{caseOf("A")}})
	m.Consts = roomy(m.Consts, api.ConstDef{Name: "a", Type: "bytes"})
	m.Funs = roomy(m.Funs, api.FunDef{Name: "f", Type: "num"})
	return m
}

func roomyIfaces(l []api.Iface) []api.Iface {
	for k, i := range l {
		for n, x := range i.Items {
			i.Items[n].Cases = roomyCases(x.Cases)
		}
		l[k].Items = roomy(i.Items, constItem("spare", "num"))
	}
	return roomy(l, api.Iface{Module: "spare"})
}

// wholeExpr tells all of e, spare room included.
func wholeExpr(e api.Expr) string {
	s := fmt.Sprint(e.Kind, e.At, e.Name, e.N, e.Text, e.Type, e.Params[:cap(e.Params)], len(e.Params), len(e.Kids), len(e.Arms))
	for _, kid := range e.Kids[:cap(e.Kids)] {
		s += "(" + wholeExpr(kid) + ")"
	}
	for _, arm := range e.Arms[:cap(e.Arms)] {
		s += "{" + arm.Case + fmt.Sprint(arm.Vars[:cap(arm.Vars)], len(arm.Vars)) + wholeExpr(arm.Body) + "}"
	}
	return s
}

func wholeCases(cases []api.Case) string {
	s := fmt.Sprint(cases[:cap(cases)])
	for _, c := range cases {
		s += fmt.Sprint(c.Fields[:cap(c.Fields)])
	}
	return s
}

// whole tells all of m and l, spare room included.
func whole(m api.Module, l []api.Iface) string {
	s := fmt.Sprint(m.Name, m.Imports[:cap(m.Imports)], m.Exports[:cap(m.Exports)], m.Types[:cap(m.Types)], m.Consts[:cap(m.Consts)], m.Funs[:cap(m.Funs)], l[:cap(l)])
	for _, def := range m.Types {
		s += wholeCases(def.Cases)
	}
	for _, def := range m.Consts {
		s += wholeExpr(def.Body)
	}
	for _, def := range m.Funs {
		s += fmt.Sprint(def.Params[:cap(def.Params)]) + wholeExpr(def.Body)
	}
	for _, i := range l {
		s += fmt.Sprint(i.Items[:cap(i.Items)])
		for _, x := range i.Items {
			s += wholeCases(x.Cases)
		}
	}
	return s
}

// sources are modules that are lowered, and some that are refused.
func sources() []string {
	l := ordinaries()
	for _, one := range wrongs() {
		l = append(l, "(module m "+one.items+")")
	}
	return append(l, "(module m (fun f () num "+lets(25, "a", "1")+"))", "(module m (fun f () num "+behind(31, ones(18))+"))", "(module m (fun f () num (add "+nest(30, "(add 1 ", "1", ")")+ones(20)+")))", "(module m "+each(0, 20, "(fun f# () num (call (fn () num (call (fn () num 1)))))")+")")
}

func toldObject(o object.Object, why api.Errno) string { return fmt.Sprintf("%v %+v", why, o) }

// R2, R4, R5: what is handed in stands as it was, spare room too; the same again answers the same, and spare room tells nothing.
func TestUnchanged(t *testing.T) {
	for _, source := range sources() {
		want := toldObject(lower.Module(read(t, source), others()))
		m, l := roomyModule(read(t, source)), roomyIfaces(others())
		ahead := whole(m, l)
		for range 2 {
			if got := toldObject(lower.Module(m, l)); got != want {
				t.Errorf("%.300s with spare room: %.500s, want %.500s", source, got, want)
			}
			if whole(m, l) != ahead {
				t.Errorf("%.300s: was changed", source)
			}
		}
	}
}

// emptied is e with empty lists for those that are nil, or the other way round.
func emptied(e api.Expr, none bool) api.Expr {
	kids, arms, params := []api.Expr{}, []api.Arm{}, append([]api.Param{}, e.Params...)
	for _, kid := range e.Kids {
		kids = append(kids, emptied(kid, none))
	}
	for _, arm := range e.Arms {
		vars := append([]string{}, arm.Vars...)
		if len(vars) == 0 && none {
			vars = nil
		}
		arms = append(arms, api.Arm{Case: arm.Case, Vars: vars, Body: emptied(arm.Body, none)})
	}
	if none && len(kids) == 0 {
		kids = nil
	}
	if none && len(arms) == 0 {
		arms = nil
	}
	if none && len(params) == 0 {
		params = nil
	}
	e.Kids, e.Arms, e.Params = kids, arms, params
	return e
}

// R4: empty lists mean the same as none.
func TestEmptyLists(t *testing.T) {
	for _, source := range sources() {
		want := toldObject(lower.Module(read(t, source), others()))
		for _, none := range []bool{true, false} {
			m := read(t, source)
			for k, def := range m.Consts {
				m.Consts[k].Body = emptied(def.Body, none)
			}
			for k, def := range m.Funs {
				m.Funs[k].Body = emptied(def.Body, none)
				if len(def.Params) == 0 {
					m.Funs[k].Params = map[bool][]api.Param{false: {}}[none]
				}
			}
			if got := toldObject(lower.Module(m, others())); got != want {
				t.Errorf("%.300s: %.500s, want %.500s", source, got, want)
			}
		}
	}
	empty := api.Module{Name: "m", Imports: []api.Import{}, Exports: []string{}, Types: []api.TypeDef{}, Consts: []api.ConstDef{}, Funs: []api.FunDef{}}
	if o := wantObject(t, empty, []api.Iface{}); !reflect.DeepEqual(o, object.Object{Module: "m"}) {
		t.Errorf("%+v", o)
	}
}

func scribble[E any](l []E, x E) {
	for k := range l[:cap(l)] {
		l[:cap(l)][k] = x
	}
}

func handsOfItem(x api.Item) (hands []func()) {
	hands = append(hands, func() { scribble(x.Cases, caseOf("scribbled")) })
	for _, c := range x.Cases {
		hands = append(hands, func() { scribble(c.Fields, "scribbled") })
	}
	return hands
}

// handsOf are hands that write over each list of an object, spare room included.
func handsOf(o object.Object) []func() {
	hands := []func(){
		func() { scribble(o.Types, typeItem("scribbled")) },
		func() { scribble(o.Texts, "scribbled") },
		func() { scribble(o.Globals, object.Global{Name: "scribbled"}) },
		func() { scribble(o.Funs, object.Fun{Name: "scribbled"}) },
		func() { scribble(o.Exports, "scribbled") },
		func() { scribble(o.Symbols, object.Symbol{Module: "scribbled"}) },
		func() { scribble(o.Relocs, object.Reloc{Fun: -99}) },
	}
	for _, x := range o.Types {
		hands = append(hands, handsOfItem(x)...)
	}
	for _, f := range o.Funs {
		hands = append(hands, func() { scribble(f.Params, "scribbled") }, func() { scribble(f.Code, 0xee) })
	}
	for _, s := range o.Symbols {
		hands = append(hands, handsOfItem(s.Item)...)
	}
	return hands
}

func partsOfItem(x api.Item) (tell []func() string) {
	tell = append(tell, func() string {
		s := ""
		for _, c := range x.Cases {
			s += c.Name + ";"
		}
		return s
	})
	for _, c := range x.Cases {
		tell = append(tell, func() string { return fmt.Sprintf("%q", c.Fields) })
	}
	return tell
}

// partsOf tells each list of an object by itself, in the order of handsOf, whatever the lists that hold it have become.
func partsOf(o object.Object) []func() string {
	tell := []func() string{
		func() (s string) {
			for _, x := range o.Types {
				s += fmt.Sprintf(" %d %s %s", x.Kind, x.Name, x.Type)
			}
			return s
		},
		func() string { return fmt.Sprintf("%q", o.Texts) },
		func() string { return fmt.Sprint(o.Globals) },
		func() (s string) {
			for _, f := range o.Funs {
				s += fmt.Sprintf(" %s %d %s %d", f.Name, f.Captures, f.Result, f.Locals)
			}
			return s
		},
		func() string { return fmt.Sprintf("%q", o.Exports) },
		func() (s string) {
			for _, x := range o.Symbols {
				s += fmt.Sprintf(" %s %d %s %s", x.Module, x.Item.Kind, x.Item.Name, x.Item.Type)
			}
			return s
		},
		func() string { return fmt.Sprint(o.Relocs) },
	}
	for _, x := range o.Types {
		tell = append(tell, partsOfItem(x)...)
	}
	for _, f := range o.Funs {
		tell = append(tell, func() string { return fmt.Sprintf("%q", f.Params) }, func() string { return fmt.Sprintf("%x", f.Code) })
	}
	for _, s := range o.Symbols {
		tell = append(tell, partsOfItem(s.Item)...)
	}
	return tell
}

// everything is a module whose object has something in each list, some of it many times over.
const everything = `(module m (import n T U c f two) (export W a g z) (type W (A) (B n.T num) (C W (array W) n.T num)) (type V (D n.T num)) (const a (array num) (array num 1 n.c)) (const z W (C (A) (array W (B (n.f 1) 2) (A)) (n.P 3) 4))
	(fun g ((w W) (t n.T)) (array W) (match w ((A) (array W (B t 1))) ((B t x) (array W w (B t x))) ((C v l t x) (cat l (array W v)))))
	(fun h ((v V) (t n.T)) (fn (n.T) num) (match v ((D u x) (fn ((s n.T)) num (n.two (match s ((n.P y) t) ((n.Q) u)) (fn ((y num)) num (add (add x y) (len (g z (n.f y))))))))))
	(fun i ((u n.U)) (fn () n.U) (fn () n.U u)) (fun j ((u n.U)) (fn () n.U) (fn () n.U u)))`

// R2: each list of what is answered is memory of its own, and another answer is not touched by what is written there.
func TestAnswersApart(t *testing.T) {
	m, l := read(t, everything), others()
	want, ahead := toldObject(lower.Module(m, l)), whole(m, l)
	first := wantObject(t, m, l)
	for k := range handsOf(first) {
		got, _ := lower.Module(m, l)
		hands, tell, before := handsOf(got), partsOf(got), []string{}
		for _, f := range tell {
			before = append(before, f())
		}
		hands[k]()
		for n, f := range tell {
			if n != k && f() != before[n] {
				t.Errorf("list %d shares memory with list %d: %s, was %s", n, k, f(), before[n])
			}
		}
		if again := toldObject(lower.Module(m, l)); again != want || whole(m, l) != ahead {
			t.Errorf("list %d: then it is %s, was %s", k, again, want)
		}
	}
	if toldObject(first, api.OK) != want {
		t.Errorf("an answer turned: %+v", first)
	}
}

func scribbleExpr(e *api.Expr) {
	for k := range e.Kids {
		scribbleExpr(&e.Kids[k])
	}
	for k := range e.Arms {
		scribbleExpr(&e.Arms[k].Body)
		scribble(e.Arms[k].Vars, "scribbled")
	}
	scribble(e.Params, api.Param{Name: "scribbled", Type: "scribbled"})
	scribble(e.Arms, api.Arm{Case: "scribbled"})
	scribble(e.Kids, api.Expr{Kind: api.Text, Text: "scribbled"})
}

// R2: what is handed in is not kept: no answer turns when it does.
func TestKeepsNothing(t *testing.T) {
	m, l := roomyModule(read(t, everything)), roomyIfaces(others())
	o, _ := lower.Module(m, l)
	want := toldObject(lower.Module(read(t, everything), others()))
	for k := range m.Types {
		handsOfItem(typeItem("", m.Types[k].Cases...))[0]()
		for _, c := range m.Types[k].Cases {
			scribble(c.Fields, "scribbled")
		}
	}
	for k := range m.Consts {
		scribbleExpr(&m.Consts[k].Body)
	}
	for k := range m.Funs {
		scribbleExpr(&m.Funs[k].Body)
		scribble(m.Funs[k].Params, api.Param{Name: "scribbled"})
	}
	scribble(m.Imports, api.Import{From: "scribbled"})
	scribble(m.Exports, "scribbled")
	scribble(m.Types, api.TypeDef{Name: "scribbled"})
	scribble(m.Consts, api.ConstDef{Name: "scribbled"})
	scribble(m.Funs, api.FunDef{Name: "scribbled"})
	for _, i := range l {
		for _, x := range i.Items {
			for _, hand := range handsOfItem(x) {
				hand()
			}
		}
		scribble(i.Items, constItem("scribbled", "num"))
	}
	scribble(l, api.Iface{Module: "scribbled"})
	if got := toldObject(o, api.OK); got != want {
		t.Errorf("%s, was %s", got, want)
	}
}

// textsOf are all texts of an expression.
func textsOf(e api.Expr) []string {
	l := []string{e.Name, e.Text, e.Type}
	for _, param := range e.Params {
		l = append(l, param.Name, param.Type)
	}
	for _, kid := range e.Kids {
		l = append(l, textsOf(kid)...)
	}
	for _, arm := range e.Arms {
		l = append(append(append(l, arm.Case), arm.Vars...), textsOf(arm.Body)...)
	}
	return l
}

func textsOfItem(x api.Item) []string {
	l := []string{x.Name, x.Type}
	for _, c := range x.Cases {
		l = append(append(l, c.Name), c.Fields...)
	}
	return l
}

// textsOfGiven are all texts of a module and of interfaces.
func textsOfGiven(m api.Module, l []api.Iface) []string {
	texts := append([]string{m.Name}, m.Exports...)
	for _, one := range m.Imports {
		texts = append(texts, one.From, one.Name)
	}
	for _, def := range m.Types {
		texts = append(texts, textsOfItem(typeItem(def.Name, def.Cases...))...)
	}
	for _, def := range m.Consts {
		texts = append(append(texts, def.Name, def.Type), textsOf(def.Body)...)
	}
	for _, def := range m.Funs {
		texts = append(append(texts, def.Name, def.Type), textsOf(def.Body)...)
		for _, param := range def.Params {
			texts = append(texts, param.Name, param.Type)
		}
	}
	for _, i := range l {
		texts = append(texts, i.Module)
		for _, item := range i.Items {
			texts = append(texts, textsOfItem(item)...)
		}
	}
	return texts
}

func textsOfObject(o object.Object) []string {
	l := slices.Concat([]string{o.Module}, o.Texts, o.Exports)
	for _, x := range o.Types {
		l = append(l, textsOfItem(x)...)
	}
	for _, g := range o.Globals {
		l = append(l, g.Name, g.Type)
	}
	for _, f := range o.Funs {
		l = append(append(l, f.Name, f.Result), f.Params...)
	}
	for _, s := range o.Symbols {
		l = append(append(l, s.Module), textsOfItem(s.Item)...)
	}
	return l
}

// R2: no text of an answer is a piece of one that was handed in.
func TestTextsAreNew(t *testing.T) {
	m, l := read(t, strings.ReplaceAll(everything, "\t", " ")), others()
	o := wantObject(t, m, l)
	for _, piece := range textsOfObject(o) {
		for _, given := range textsOfGiven(m, l) {
			from, at := uintptr(unsafe.Pointer(unsafe.StringData(given))), uintptr(unsafe.Pointer(unsafe.StringData(piece)))
			if piece != "" && from <= at && at < from+uintptr(len(given)) {
				t.Errorf("%q is a piece of what was handed in", piece)
			}
		}
	}
}
