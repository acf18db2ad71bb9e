package scope_test

import (
	"fmt"
	"slices"
	"strings"
	"testing"
	"unsafe"

	"hawser/api"
	"hawser/parse"
	"hawser/scope"
)

// asked are names that mean something in sourceM, and some that do not.
func asked() []string {
	return strings.Fields("c d f g h m n k n.f n.c n.g k.c k.f m.f q.f D E A B C n.D n.C n.B n.A k.C k.A m.D m.T m.A m.B n.T n.U n.V k.T k.U q.T num [m.T] [n.T] (n.U)k.T ()n.T")
}

// answers are all that s tells of these names.
func answers(s *scope.Scope, names []string) string {
	told := ""
	for _, name := range names {
		x, isValue := s.Value(name)
		owner, number, c, isCase := s.Case(name)
		cases, isType := s.Cases(name)
		told += fmt.Sprintln(name, toldItem(x), isValue, owner, number, toldCase(c), isCase, toldCases(cases), isType, s.Known(name))
	}
	return told
}

// scribble writes over a list, spare room included.
func scribble[E any](l []E, x E) {
	for k := range l[:cap(l)] {
		l[:cap(l)][k] = x
	}
}

func scribbleCases(cases []api.Case) {
	for _, c := range cases {
		scribble(c.Fields, "scribbled")
	}
	scribble(cases, api.Case{Name: "Scribbled", Fields: []string{"scribbled"}})
}

func scribbleModule(m api.Module) {
	for _, def := range m.Types {
		scribbleCases(def.Cases)
	}
	for _, def := range m.Funs {
		scribble(def.Params, api.Param{Name: "scribbled", Type: "scribbled"})
	}
	scribble(m.Imports, api.Import{From: "scribbled", Name: "scribbled"})
	scribble(m.Exports, "scribbled")
	scribble(m.Types, api.TypeDef{Name: "Scribbled"})
	scribble(m.Consts, api.ConstDef{Name: "scribbled", Type: "scribbled"})
	scribble(m.Funs, api.FunDef{Name: "scribbled", Type: "scribbled"})
}

func scribbleIfaces(l []api.Iface) {
	for _, i := range l {
		for _, x := range i.Items {
			scribbleCases(x.Cases)
		}
		scribble(i.Items, api.Item{Kind: api.Const, Name: "scribbled", Type: "scribbled"})
	}
	scribble(l, api.Iface{Module: "scribbled"})
}

// R2: what New was given may be changed afterwards.
func TestKeepsNothing(t *testing.T) {
	m, l := parsed(t, sourceM), others(t)
	s := wantNew(t, m, l)
	ahead := answers(s, asked())
	scribbleModule(m)
	if now := answers(s, asked()); now != ahead {
		t.Errorf("with another module: %s, was %s", now, ahead)
	}
	scribbleIfaces(l)
	if now := answers(s, asked()); now != ahead {
		t.Errorf("with other interfaces: %s, was %s", now, ahead)
	}
	if want := answers(mine(t), asked()); want != ahead {
		t.Errorf("%s, want %s", ahead, want)
	}
	wantNoValue(t, s, "scribbled")
	wantNoCase(t, s, "Scribbled")
}

// R2: what the Scope answered may be changed.
func TestAnswersMayBeChanged(t *testing.T) {
	s := mine(t)
	ahead := answers(s, asked())
	for _, name := range asked() {
		x, _ := s.Value(name)
		scribbleCases(x.Cases)
		_, _, c, _ := s.Case(name)
		scribble(c.Fields, "scribbled")
		cases, _ := s.Cases(name)
		scribbleCases(cases)
		if now := answers(s, asked()); now != ahead {
			t.Errorf("%s: %s, was %s", name, now, ahead)
		}
	}
}

// R2: two answers, and the lists of one, share no memory, spare room included.
func TestAnswersApart(t *testing.T) {
	s := mine(t)
	for _, name := range []string{"m.T", "m.A", "n.U", "n.V", "k.T"} {
		want, _ := s.Cases(name)
		for k := range want {
			cases, _ := s.Cases(name)
			again, _ := s.Cases(name)
			scribble(cases[k].Fields, "scribbled")
			for n, c := range cases {
				if n != k && toldCase(c) != toldCase(want[n]) || c.Name != want[n].Name {
					t.Errorf("%s: case %d was touched by case %d: %s", name, n, k, toldCase(c))
				}
			}
			scribble(cases, api.Case{})
			if toldCases(again) != toldCases(want) {
				t.Errorf("%s: %s, was %s", name, toldCases(again), toldCases(want))
			}
		}
	}
	_, _, one, _ := s.Case("E")
	_, _, two, _ := s.Case("E")
	cases, _ := s.Cases("m.T")
	scribble(one.Fields, "scribbled")
	if toldCase(two) != toldCase(caseOf("E", "m.T", "n.U", "k.T")) || toldCase(cases[1]) != toldCase(two) {
		t.Errorf("%s, %s", toldCase(two), toldCase(cases[1]))
	}
}

func textsOf(cases []api.Case) (l []string) {
	for _, c := range cases {
		l = append(append(l, c.Name), c.Fields...)
	}
	return l
}

// given are all texts of what New is handed.
func given(m api.Module, l []api.Iface) []string {
	texts := append([]string{m.Name}, m.Exports...)
	for _, one := range m.Imports {
		texts = append(texts, one.From, one.Name)
	}
	for _, def := range m.Types {
		texts = append(append(texts, def.Name), textsOf(def.Cases)...)
	}
	for _, def := range m.Consts {
		texts = append(texts, def.Name, def.Type)
	}
	for _, def := range m.Funs {
		texts = append(texts, def.Name, def.Type)
		for _, param := range def.Params {
			texts = append(texts, param.Name, param.Type)
		}
	}
	for _, i := range l {
		texts = append(texts, i.Module)
		for _, x := range i.Items {
			texts = append(append(texts, x.Name, x.Type), textsOf(x.Cases)...)
		}
	}
	return texts
}

// wantNoPieces: no text of an answer is a piece of one that was handed in.
func wantNoPieces(t *testing.T, answer, given []string) {
	t.Helper()
	for _, piece := range answer {
		for _, whole := range given {
			from, at := uintptr(unsafe.Pointer(unsafe.StringData(whole))), uintptr(unsafe.Pointer(unsafe.StringData(piece)))
			if piece != "" && from <= at && at < from+uintptr(len(whole)) {
				t.Errorf("%q is a piece of what was handed in", piece)
			}
		}
	}
}

// R2: no text of what is handed in is kept or answered.
func TestTextsAreNew(t *testing.T) {
	m, l := parsed(t, sourceM), others(t)
	s := wantNew(t, m, l)
	names := asked()
	var texts []string
	for _, name := range names {
		x, _ := s.Value(name)
		owner, _, c, _ := s.Case(name)
		cases, _ := s.Cases(name)
		texts = append(texts, x.Name, x.Type, owner)
		texts = append(append(texts, textsOf([]api.Case{c})...), textsOf(cases)...)
	}
	wantNoPieces(t, texts, append(given(m, l), names...))
	for _, w := range wrongs() {
		m := inM(t, longTypes, w.numbered(1).items)
		_, _, name := scope.New(m, l)
		wantNoPieces(t, []string{name}, given(m, l))
	}
}

// roomy is l with room behind it, that holds what x says.
func roomy[E any](l []E, x E) []E { return append(slices.Clip(l), x, x)[:len(l)] }

func roomyCases(cases []api.Case) []api.Case {
	for n, c := range cases {
		cases[n].Fields = roomy(c.Fields, "spare.Field")
	}
	return roomy(cases, caseOf("D", "spare.Field"))
}

// roomyModule is m with room behind each list, that would be refused.
func roomyModule(m api.Module) api.Module {
	for k, def := range m.Types {
		m.Types[k].Cases = roomyCases(def.Cases)
	}
	for k, def := range m.Funs {
		m.Funs[k].Params = roomy(def.Params, api.Param{Name: "spare", Type: "spare.Param"})
	}
	m.Imports = roomy(m.Imports, api.Import{From: "m", Name: "spare"})
	m.Exports = roomy(m.Exports, "spare")
	m.Types = roomy(m.Types, api.TypeDef{Name: "T", Cases: []api.Case{caseOf("Spare")}})
	m.Consts = roomy(m.Consts, api.ConstDef{Name: "c", Type: "num"})
	m.Funs = roomy(m.Funs, api.FunDef{Name: "f", Type: "num"})
	return m
}

func roomyIfaces(l []api.Iface) []api.Iface {
	for k, i := range l {
		for n, x := range i.Items {
			i.Items[n].Cases = roomyCases(x.Cases)
		}
		l[k].Items = roomy(i.Items, api.Item{Kind: api.Const, Name: "spare", Type: "num"})
	}
	return roomy(l, api.Iface{Module: "spare", Items: []api.Item{{Kind: api.Const, Name: "spare", Type: "num"}}})
}

// whole tells all of m and l, spare room included.
func whole(m api.Module, l []api.Iface) string {
	s := fmt.Sprint(m, l, m.Imports[:cap(m.Imports)], m.Exports[:cap(m.Exports)], m.Types[:cap(m.Types)], m.Consts[:cap(m.Consts)], m.Funs[:cap(m.Funs)], l[:cap(l)])
	lists := [][]api.Case{}
	for _, def := range m.Types {
		lists = append(lists, def.Cases)
	}
	for _, i := range l {
		s += fmt.Sprint(i.Items[:cap(i.Items)])
		for _, x := range i.Items {
			lists = append(lists, x.Cases)
		}
	}
	for _, cases := range lists {
		s += fmt.Sprint(cases[:cap(cases)])
		for _, c := range cases {
			s += fmt.Sprint(c.Fields[:cap(c.Fields)])
		}
	}
	for _, def := range m.Funs {
		s += fmt.Sprint(def.Params[:cap(def.Params)])
	}
	return s
}

// R2, R5: New changes nothing that it is given, and does not read what is behind the lists' ends.
func TestChangesNothing(t *testing.T) {
	m, l := roomyModule(parsed(t, sourceM)), roomyIfaces(others(t))
	ahead := whole(m, l)
	s := wantNew(t, m, l)
	if told := answers(s, asked()); told != answers(mine(t), asked()) {
		t.Errorf("with spare room: %s", told)
	}
	for _, name := range asked() {
		cases, _ := s.Cases(name)
		scribbleCases(cases)
	}
	if now := whole(m, l); now != ahead {
		t.Errorf("%s, was %s", now, ahead)
	}
	for _, w := range wrongs() {
		m := roomyModule(inM(t, longTypes, w.numbered(1).items))
		ahead := whole(m, l)
		wantRefused(t, m, l, w.numbered(1).why, w.numbered(1).name)
		if now := whole(m, l); now != ahead {
			t.Errorf("%s, was %s", now, ahead)
		}
	}
	wantRefused(t, inM(t, "(import spare spare)"), l, api.ErrNone, "spare.spare")
	wantRefused(t, inM(t, "(import n spare)"), l, api.ErrNone, "n.spare")
}

// R3: a refused New leaves nothing behind for a later one.
func TestRefusedLeavesNothing(t *testing.T) {
	want := answers(mine(t), asked())
	for _, w := range wrongs() {
		wantRefused(t, inM(t, longTypes, w.numbered(1).items), others(t), w.numbered(1).why, w.numbered(1).name)
		if now := answers(mine(t), asked()); now != want {
			t.Errorf("behind %v: %s, was %s", w.why, now, want)
		}
	}
}

// R4: empty lists mean the same as none.
func TestEmptyLists(t *testing.T) {
	empty := api.Module{Name: "m", Imports: []api.Import{}, Exports: []string{}, Types: []api.TypeDef{}, Consts: []api.ConstDef{}, Funs: []api.FunDef{}}
	wantNew(t, empty, []api.Iface{})
	wantNew(t, empty, []api.Iface{{Module: "n", Items: []api.Item{}}})
	m := parsed(t, "(module m (import n T c) (type U (D)) (fun f () num 1))")
	m.Types[0].Cases[0].Fields, m.Funs[0].Params = []string{}, []api.Param{}
	s := wantNew(t, m, []api.Iface{{Module: "n", Items: []api.Item{{Kind: api.Type, Name: "T", Cases: []api.Case{{Name: "E", Fields: []string{}}}}, {Kind: api.Const, Name: "c", Type: "num", Cases: []api.Case{}}}}})
	wantValue(t, s, "f", api.Fun, "()num")
	wantValue(t, s, "n.c", api.Const, "num")
	wantCase(t, s, "D", "m.U", 0, "D")
	wantCase(t, s, "n.E", "n.T", 0, "E")
}

// wantEnds: New and what it makes end, whatever they are given.
func wantEnds(m api.Module, l []api.Iface, names []string) {
	if s, _, _ := scope.New(m, l); s != nil {
		answers(s, names)
	}
}

// R1: modules and interfaces that nothing makes: names that are none and meet one another, kinds that are none, cases twice.
func TestAnything(t *testing.T) {
	names := []string{"", ".", "a", "b", "A", "B", "a.b", "a.b.C", "a.b.A", "b.C", "C", "..", "a.", ".C", "num", "\xff"}
	cases := [][]api.Case{nil, {{}}, {caseOf("A", "num"), caseOf("B", "x")}, {caseOf("B")}, {caseOf("A"), caseOf("A")}}
	for _, own := range cases {
		for _, other := range cases {
			for _, name := range names {
				for _, from := range names {
					m := api.Module{Name: "a", Types: []api.TypeDef{{Name: name, Cases: own}}, Imports: []api.Import{{From: from, Name: "C"}, {From: "a.b", Name: "C"}, {}}}
					l := []api.Iface{{Module: from, Items: []api.Item{{Kind: api.Type, Name: "C", Cases: other}}}, {Module: "a.b", Items: []api.Item{{Kind: 9, Name: "C", Cases: other}, {Kind: -1}}}, {Items: []api.Item{{}}}}
					wantEnds(m, l, names)
					wantEnds(m, l[1:], names)
					m.Imports = m.Imports[:1]
					wantEnds(m, l, names)
				}
			}
		}
	}
	odd := api.Module{Consts: []api.ConstDef{{}, {Name: "\xff", Type: "num"}}, Funs: []api.FunDef{{Name: "a", Params: make([]api.Param, 1000)}, {Name: "b", Type: "num"}}}
	wantEnds(odd, nil, names)
	wantEnds(api.Module{}, nil, names)
	wantEnds(api.Module{}, make([]api.Iface, 1000), names)
}

// R1: far more definitions and interfaces than may be.
func TestMany(t *testing.T) {
	m, l := api.Module{Name: "m"}, []api.Iface{}
	for k := range 50000 {
		name := fmt.Sprint("n", k)
		m.Types = append(m.Types, api.TypeDef{Name: fmt.Sprint("T", k), Cases: []api.Case{caseOf(fmt.Sprint("C", k), fmt.Sprint("m.T", k))}})
		m.Consts = append(m.Consts, api.ConstDef{Name: fmt.Sprint("c", k), Type: "num"})
		m.Funs = append(m.Funs, api.FunDef{Name: fmt.Sprint("f", k), Type: name + ".T"})
		m.Imports = append(m.Imports, api.Import{From: name, Name: "T"})
		l = append(l, api.Iface{Module: name, Items: []api.Item{{Kind: api.Type, Name: "T", Cases: []api.Case{caseOf("A")}}}})
	}
	s, why, name := scope.New(m, l)
	if why != api.OK {
		t.Fatalf("%v %s of %d bytes", why, name, len(parse.Print(m)))
	}
	wantCase(t, s, "n49999.A", "n49999.T", 0, "A")
	wantValue(t, s, "f49999", api.Fun, "()n49999.T")
}
