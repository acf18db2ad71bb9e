package mean_test

import (
	"fmt"
	"math/rand"
	"slices"
	"strings"
	"testing"
	"unsafe"

	"hawser/api"
	"hawser/mean"
)

// roomy is l with room behind it, that holds x.
func roomy[E any](l []E, x E) []E { return append(slices.Clip(l), x, x)[:len(l)] }

// roomyExpr is e with room behind each list, that would change what it gives.
func roomyExpr(e api.Expr) api.Expr {
	for k, kid := range e.Kids {
		e.Kids[k] = roomyExpr(kid)
	}
	for k, arm := range e.Arms {
		e.Arms[k].Vars, e.Arms[k].Body = roomy(arm.Vars, "x"), roomyExpr(arm.Body)
	}
	e.Kids = roomy(e.Kids, api.Expr{Kind: api.Var, Name: "spare"})
	e.Arms = roomy(e.Arms, api.Arm{Case: "Spare"})
	e.Params = roomy(e.Params, api.Param{Name: "x", Type: "spare.Param"})
	return e
}

// roomyModule is m with room behind each list, that would be refused.
func roomyModule(m api.Module) api.Module {
	for k, def := range m.Types {
		m.Types[k].Cases = roomyCases(def.Cases)
	}
	for k, def := range m.Consts {
		m.Consts[k].Body = roomyExpr(def.Body)
	}
	for k, def := range m.Funs {
		m.Funs[k].Params, m.Funs[k].Body = roomy(def.Params, api.Param{Name: "x", Type: "spare.Param"}), roomyExpr(def.Body)
	}
	m.Imports, m.Exports = roomy(m.Imports, api.Import{From: m.Name, Name: "spare"}), roomy(m.Exports, "spare")
	m.Types = roomy(m.Types, api.TypeDef{Name: "T", Cases: []api.Case{caseOf("A")}})
	m.Consts = roomy(m.Consts, api.ConstDef{Name: "one", Type: "bytes"})
	m.Funs = roomy(m.Funs, api.FunDef{Name: "f", Type: "num"})
	return m
}

func roomyCases(cases []api.Case) []api.Case {
	for n, c := range cases {
		cases[n].Fields = roomy(c.Fields, "spare.Field")
	}
	return roomy(cases, caseOf("Spare", "num"))
}

func roomyModules(l []api.Module) []api.Module {
	for k, m := range l {
		l[k] = roomyModule(m)
	}
	return roomy(l, api.Module{Name: "m"})
}

func roomyValue(v api.Value) api.Value {
	v.Kids = slices.Clone(v.Kids)
	for k, kid := range v.Kids {
		v.Kids[k] = roomyValue(kid)
	}
	v.B, v.Kids = roomy(v.B, '?'), roomy(v.Kids, num(77))
	return v
}

func roomyValues(l []api.Value) []api.Value {
	l = slices.Clone(l)
	for k, v := range l {
		l[k] = roomyValue(v)
	}
	return roomy(l, num(77))
}

// roomyProgram is p, in memory of its own, with room behind each list.
func roomyProgram(t *testing.T, c sampleProgram) program {
	return program{roomyModules(readAll(t, c.sources...)), c.entry, roomyValues(c.args), c.fuel}
}

// wholeExpr tells all of e, spare room included.
func wholeExpr(e api.Expr) string {
	s := fmt.Sprint(e.Kind, e.At, e.Name, e.N, e.Text, e.Type, e.Params[:cap(e.Params)], len(e.Params), len(e.Kids), len(e.Arms))
	for _, kid := range e.Kids[:cap(e.Kids)] {
		s += "(" + wholeExpr(kid) + ")"
	}
	for _, arm := range e.Arms[:cap(e.Arms)] {
		s += "{" + arm.Case + fmt.Sprint(arm.Vars[:cap(arm.Vars)], len(arm.Vars)) + wholeExpr(arm.Body) + "}"
	}
	return s
}

func wholeCases(cases []api.Case) string {
	s := fmt.Sprint(len(cases), cases[:cap(cases)])
	for _, c := range cases {
		s += fmt.Sprint(len(c.Fields), c.Fields[:cap(c.Fields)])
	}
	return s
}

func wholeValue(v api.Value) string {
	s := fmt.Sprint(v.Kind, v.Case, v.N, len(v.B), v.B[:cap(v.B)], len(v.Kids))
	for _, kid := range v.Kids[:cap(v.Kids)] {
		s += "(" + wholeValue(kid) + ")"
	}
	return s
}

// whole tells all of what Run is given, spare room included.
func (p program) whole() string {
	s := fmt.Sprint(p.entry, p.fuel, len(p.l), len(p.args))
	for _, m := range p.l[:cap(p.l)] {
		s += fmt.Sprint(m.Name, len(m.Imports), m.Imports[:cap(m.Imports)], len(m.Exports), m.Exports[:cap(m.Exports)], len(m.Types), m.Types[:cap(m.Types)], len(m.Consts), m.Consts[:cap(m.Consts)], len(m.Funs), m.Funs[:cap(m.Funs)])
		for _, def := range m.Types {
			s += wholeCases(def.Cases)
		}
		for _, def := range m.Consts {
			s += wholeExpr(def.Body)
		}
		for _, def := range m.Funs {
			s += fmt.Sprint(len(def.Params), def.Params[:cap(def.Params)]) + wholeExpr(def.Body)
		}
	}
	for _, v := range p.args[:cap(p.args)] {
		s += wholeValue(v)
	}
	return s
}

// sampleProgram is what a program is read of.
type sampleProgram struct {
	sources []string
	entry   string
	args    []api.Value
	fuel    int
}

// samplePrograms are some of each kind, of which some are refused or end.
func samplePrograms() []sampleProgram {
	one := func(definitions string, args ...api.Value) sampleProgram {
		return sampleProgram{[]string{"(module m (export f) (type T (A) (B num bytes) (C T (array T))) " + definitions + ")"}, "m.f", args, plenty}
	}
	t := variant(2, variant(1, num(2), text("two")), array(variant(0), variant(1, num(3), text("three"))))
	l := []sampleProgram{
		one("(fun f () num 1)"), one(`(fun f () bytes "text")`), one("(const one num (add 1 2)) (fun f ((x num)) num (mul x one))", num(7)),
		one("(fun f ((x bytes)) bytes x)", text("handed in")), one("(fun f ((x bytes)) bytes (cut x 2 5))", text("handed in")), one("(fun f ((x bytes)) bytes (cat x \"\"))", text("handed in")), one("(fun f ((x bytes)) (array bytes) (array bytes x (cut x 0 4) x (cat x x) (cat \"\" x) \"x\"))", text("handed in")),
		one("(fun f ((t T)) T t)", t), one("(fun f ((t T)) T (C t (array T t t)))", t), one("(const one T (A)) (fun f ((t T)) T (match t ((A) one) ((B x y) t) ((C x y) (C (at y 1) (cat y y)))))", t),
		one("(fun f ((l (array num))) (array (array num)) (array (array num) l l (cat l (array num)) (cat l l)))", nums(5)), one("(fun f ((l (array (array bytes)))) (array (array bytes)) (cat l (array (array bytes) (at l 0))))", array(array(text("a"), text("b")), array())),
		one("(fun f ((x num)) (fn () num) (fn () num x))", num(1)), one("(fun f ((x num)) num (call (let y 3 (fn ((z num)) num (add x (mul y z)))) 5))", num(1)),
		one("(const one num (f)) (fun f () num one)"), one("(fun f () num (f))"), one("(fun f ((x num)) num (at \"\" x))", num(0)), one("(fun f ((l (array num))) (array num) (cat l (array num 1)))", nums(2047)), one("(fun f ((x num)) num x)", text("")), one("(fun f () num spare)"), one("(fun f ((x num)) num x)"),
		{[]string{sourceB, sourceA}, "b.f", []api.Value{num(4)}, plenty}, {[]string{sourceB, sourceA}, "b.h", []api.Value{variant(1, variant(0, num(8)), text("bytes"))}, plenty}, {[]string{sourceA, sourceB}, "a.mk", []api.Value{num(4)}, 9}, {[]string{ringX, ringY}, "x.f", []api.Value{num(4)}, plenty}, {[]string{sourceA}, "a.nothing", nil, plenty}, {nil, "a.b", nil, plenty},
	}
	short := l[2]
	short.fuel = 4
	return append(l, short)
}

// R2, R5: what was handed in stands as it was behind each call, and what is behind the lists' ends is not read.
func TestChangesNothing(t *testing.T) {
	for _, c := range samplePrograms() {
		p := roomyProgram(t, c)
		ahead := p.whole()
		want := program{readAll(t, c.sources...), c.entry, c.args, c.fuel}.run()
		wantOrder := toldOrder(readAll(t, c.sources...))
		for range 2 {
			if got := p.run(); got != want {
				t.Errorf("%q with spare room: %.300s, want %.300s", c.sources, got, want)
			}
			if got := toldOrder(p.l); got != wantOrder {
				t.Errorf("Order(%q) with spare room: %s, want %s", c.sources, got, wantOrder)
			}
			if p.whole() != ahead {
				t.Errorf("%q: changed", c.sources)
			}
		}
	}
}

// R2, R5: of Fits too.
func TestFitsChangesNothing(t *testing.T) {
	l := roomy(interfaces(t), api.Iface{Module: "q", Items: []api.Item{typeOf("T", caseOf("A"))}})
	for k, i := range l {
		for n, x := range i.Items {
			i.Items[n].Cases = roomyCases(x.Cases)
		}
		l[k].Items = roomy(i.Items, typeOf("V", caseOf("A")))
	}
	tell := func() string {
		s := fmt.Sprint(l[:cap(l)])
		for _, i := range l {
			s += fmt.Sprint(i.Items[:cap(i.Items)])
			for _, x := range i.Items {
				s += wholeCases(x.Cases)
			}
		}
		return s
	}
	for k := range 3000 {
		c := rand.New(rand.NewSource(int64(k)))
		of := []string{"num", "bytes", "[num]", "m.T", "[m.T]", "n.T", "m.U", "m.V", "q.T"}[c.Intn(9)]
		plain := someValue(c, interfaces(t), of, 3, 20)
		v := roomyValue(plain)
		ahead, aheadOfValue := tell(), wholeValue(v)
		if got, want := mean.Fits(l, of, v), mean.Fits(interfaces(t), of, plain); got != want {
			t.Errorf("Fits(%s, %s) with spare room: %v", of, told(v), got)
		}
		if tell() != ahead || wholeValue(v) != aheadOfValue {
			t.Fatalf("Fits(%s, %s): changed", of, told(plain))
		}
	}
}

// scribble writes over a value, spare room included.
func scribble(v *api.Value) {
	for k := range v.Kids[:cap(v.Kids)] {
		scribble(&v.Kids[:cap(v.Kids)][k])
	}
	for k := range v.B[:cap(v.B)] {
		v.B[:cap(v.B)][k] = '!'
	}
	v.N, v.Case, v.Kind = 99, 99, 99
}

// R2: what is answered may be changed, spare room included: what was handed in and other answers stand as they were.
func TestAnswersMayBeChanged(t *testing.T) {
	for _, c := range samplePrograms() {
		p := roomyProgram(t, c)
		ahead := p.whole()
		kept, begun := mean.Run(p.l, p.entry, p.args, p.fuel)
		want := toldAnswer(kept, begun)
		again, _ := mean.Run(p.l, p.entry, p.args, p.fuel)
		scribble(&again.Value)
		if p.whole() != ahead {
			t.Errorf("%q: changed", c.sources)
		}
		if toldAnswer(kept, begun) != want {
			t.Errorf("%q: %s, was %s", c.sources, toldAnswer(kept, begun), want)
		}
		if now := p.run(); now != want {
			t.Errorf("%q: %s, was %s", c.sources, now, want)
		}
		names, _ := mean.Order(p.l)
		for k := range names[:cap(names)] {
			names[:cap(names)][k] = "scribbled"
		}
		if p.whole() != ahead {
			t.Errorf("Order(%q): changed", c.sources)
		}
	}
}

// span is where a list lies, spare room included.
type span struct{ from, to uintptr }

func spanOf[E any](l []E) span {
	var one E
	from := uintptr(unsafe.Pointer(unsafe.SliceData(l)))
	return span{from, from + uintptr(cap(l))*unsafe.Sizeof(one)}
}

// spansOf are where the lists of a value lie.
func spansOf(v api.Value) []span {
	l := []span{spanOf(v.B), spanOf(v.Kids)}
	for _, kid := range v.Kids {
		l = append(l, spansOf(kid)...)
	}
	return slices.DeleteFunc(l, func(s span) bool { return s.from == s.to })
}

// R2: no two lists of an answer share memory, nor with what was handed in.
func TestNothingIsShared(t *testing.T) {
	for _, c := range samplePrograms() {
		p := roomyProgram(t, c)
		a, _ := mean.Run(p.l, p.entry, p.args, p.fuel)
		l := spansOf(a.Value)
		for _, v := range p.args {
			l = append(l, spansOf(v)...)
		}
		slices.SortFunc(l, func(a, b span) int { return int(int64(a.from) - int64(b.from)) })
		for k := 1; k < len(l); k++ {
			if l[k].from < l[k-1].to {
				t.Errorf("%q: lists share memory", c.sources)
			}
		}
	}
}

// R2: what was handed in may be changed: answers stand as they were, and later calls see the change.
func TestKeepsNothing(t *testing.T) {
	l := readAll(t, "(module m (export f) (const c bytes \"old\") (fun f ((x bytes) (y num)) (array bytes) (array bytes x c \"old\")))")
	args := []api.Value{text("old"), num(1)}
	kept, begun := mean.Run(l, "m.f", args, plenty)
	want := toldAnswer(kept, begun)
	names, _ := mean.Order(l)
	copy(args[0].B, "new")
	l[0].Consts[0].Body.Text = "new"
	l[0].Funs[0].Body.Kids[2].Text = "new"
	if got := toldAnswer(kept, begun); got != want {
		t.Errorf("%s, was %s", got, want)
	}
	program{l, "m.f", args, plenty}.wantValue(t, array(text("new"), text("new"), text("new")), 5)
	l[0].Name = "n"
	if names[0] != "m" {
		t.Error(names)
	}
	wantWhy(t, "another name", l, "m.f", args, api.ErrNone)
	program{l, "n.f", args, plenty}.wantValue(t, array(text("new"), text("new"), text("new")), 5)
	l[0].Exports[0] = "c"
	wantWhy(t, "another export", l, "n.f", args, api.ErrNone)
}

// R2: no text of what is handed in is answered.
func TestTextsAreNew(t *testing.T) {
	source := strings.Repeat(" ", 20) + "first second"
	l := []api.Module{{Name: source[20:25]}, {Name: source[26:], Imports: []api.Import{{From: source[20:25], Name: "x"}}}}
	names, ok := mean.Order(l)
	if !ok || len(names) != 2 {
		t.Fatal(names, ok)
	}
	from := uintptr(unsafe.Pointer(unsafe.StringData(source)))
	for _, name := range names {
		if at := uintptr(unsafe.Pointer(unsafe.StringData(name))); from <= at && at < from+uintptr(len(source)) {
			t.Errorf("%q is a piece of what was handed in", name)
		}
	}
}

// R4: the same call again answers the same, whatever was asked in between; nil and empty lists mean the same.
func TestSameAgain(t *testing.T) {
	var first []string
	for _, c := range samplePrograms() {
		first = append(first, program{readAll(t, c.sources...), c.entry, c.args, c.fuel}.run())
	}
	for range 10 {
		for k, c := range samplePrograms() {
			p := program{readAll(t, c.sources...), c.entry, c.args, c.fuel}
			if got := p.run(); got != first[k] {
				t.Fatalf("%q again: %s, was %s", c.sources, got, first[k])
			}
			p.emptyLists()
			if got := p.run(); got != first[k] {
				t.Fatalf("%q with empty lists: %s, was %s", c.sources, got, first[k])
			}
		}
	}
}

// emptyLists makes lists that are nil empty, of what parse leaves nil.
func (p *program) emptyLists() {
	if p.l == nil {
		p.l = []api.Module{}
	}
	if p.args == nil {
		p.args = []api.Value{}
	}
	for k := range p.l {
		m := &p.l[k]
		m.Imports, m.Exports, m.Types, m.Consts = append([]api.Import{}, m.Imports...), append([]string{}, m.Exports...), append([]api.TypeDef{}, m.Types...), append([]api.ConstDef{}, m.Consts...)
		for n := range m.Funs {
			emptyListsOf(&m.Funs[n].Body)
		}
	}
}

func emptyListsOf(e *api.Expr) {
	e.Kids, e.Arms, e.Params = append([]api.Expr{}, e.Kids...), append([]api.Arm{}, e.Arms...), append([]api.Param{}, e.Params...)
	for k := range e.Kids {
		emptyListsOf(&e.Kids[k])
	}
}
