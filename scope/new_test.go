package scope_test

import (
	"fmt"
	"slices"
	"strings"
	"testing"

	"hawser/api"
	"hawser/iface"
	"hawser/parse"
	"hawser/scope"
	"hawser/types"
)

func parsed(t testing.TB, s string) api.Module {
	t.Helper()
	m, why, at := parse.Module(s)
	if why != api.OK {
		t.Fatalf("Module(%.300s): %v at %d", s, why, at)
	}
	return m
}

// shown are the interfaces of sources.
func shown(t testing.TB, sources ...string) (l []api.Iface) {
	t.Helper()
	for _, s := range sources {
		i, why := iface.Of(parsed(t, s))
		if why != api.OK {
			t.Fatalf("Of(%.300s): %v", s, why)
		}
		l = append(l, i)
	}
	return l
}

// Two modules that have names, types and cases in common, and what they do not export.
const (
	sourceN = `(module n (export T U V c f g) (type T (A num) (B)) (type U (B bytes T) (C)) (type V (D) (C U)) (type Hidden (H))
		(const c num 1) (const hidden num 1) (fun f () T (B)) (fun g ((x num) (y (array U))) Hidden (H)))`
	sourceK = `(module k (export f T c) (type T (C) (A bytes)) (const c bytes "") (fun f ((x T)) T x))`
)

func others(t testing.TB) []api.Iface { return shown(t, sourceN, sourceK) }

// wantNew: New lets m by, and so does the model.
func wantNew(t testing.TB, m api.Module, l []api.Iface) *scope.Scope {
	t.Helper()
	s, why, name := scope.New(m, l)
	if s == nil || why != api.OK || name != "" {
		t.Fatalf("New(%.300s): %v, %v %q", parse.Print(m), s, why, name)
	}
	if why, name := newByFaults(m, l); why != api.OK || name != "" {
		t.Errorf("the model of New(%.300s): %v %q", parse.Print(m), why, name)
	}
	return s
}

// wantRefused: New refuses m with that name, and so does the model.
func wantRefused(t testing.TB, m api.Module, l []api.Iface, why api.Errno, name string) {
	t.Helper()
	s, gotWhy, gotName := scope.New(m, l)
	if s != nil || gotWhy != why || gotName != name {
		t.Errorf("New(%.300s): %v, %v %q, want %v %q", parse.Print(m), s, gotWhy, gotName, why, name)
	}
	if gotWhy, gotName := newByFaults(m, l); gotWhy != why || gotName != name {
		t.Errorf("the model of New(%.300s): %v %q, want %v %q", parse.Print(m), gotWhy, gotName, why, name)
	}
}

// long is a type of n bytes, 139 to 200, as a source tells it, of the types in longTypes.
func long(n int) string {
	result := "num"
	if n%2 == 0 {
		result = "Zy"
	}
	arrays := (n - 139) / 2
	return strings.Repeat("(array ", arrays) + "(fn (" + strings.Repeat(longBig+" ", 5) + ") " + result + ")" + strings.Repeat(")", arrays)
}

const (
	longBig   = "Zyyyyyyyyyyyyyyyyyyyyyyy"
	longTypes = " (type " + longBig + " (Zx)) (type Zy (Zw))"
)

// inM is a module m of these items.
func inM(t testing.TB, items ...string) api.Module {
	t.Helper()
	return parsed(t, "(module m "+strings.Join(items, " ")+")")
}

func TestLongIsSoLong(t *testing.T) {
	for n := 139; n <= api.MaxText; n++ {
		if m := inM(t, "(const c "+long(n)+" 1)"); len(m.Consts[0].Type) != n || !types.Right(m.Consts[0].Type) {
			t.Errorf("%d: %s", n, m.Consts[0].Type)
		}
	}
}

// P8.1: two definitions of one name.
func TestTaken(t *testing.T) {
	for items, name := range map[string]string{
		"(type T (A)) (type T (B))":                            "T",
		"(type T (A)) (type U (B)) (type T (C))":               "T",
		"(type T (A)) (type T (A))":                            "T",
		"(type T (A) (A))":                                     "A",
		"(type T (A num) (B) (A))":                             "A",
		"(type T (A)) (type U (A))":                            "A",
		"(type T (A) (B)) (type U (C)) (type V (D) (B bytes))": "B",
		"(const c num 1) (const c num 1)":                      "c",
		"(const c num 1) (const d num 1) (const c bytes 1)":    "c",
		"(fun f () num 1) (fun f ((x num)) num 1)":             "f",
		"(const c num 1) (fun c () num 1)":                     "c",
		"(fun c () num 1) (const c num 1)":                     "c",
		"(fun f () num 1) (const c num 1) (const f num 1)":     "f",
	} {
		wantRefused(t, inM(t, items), others(t), api.ErrTaken, name)
		wantRefused(t, inM(t, items), nil, api.ErrTaken, name)
	}
	for _, items := range []string{
		"(type T (T))", "(type T (U)) (type U (T))", "(type T (A)) (const t num 1) (fun a () num 1)", "(type T (A)) (const tT num 1) (fun _ () num 1)",
		"(const c num 1) (const cc num 1) (fun ccc () num 1)", "(type T (A)) (type Tt (Aa))", "(const n num 1) (import n c)", "(const m num 1)",
	} {
		wantNew(t, inM(t, items), others(t))
	}
}

// P8.1: a name of a module that is imported twice, and what is no such name.
func TestImportedTwice(t *testing.T) {
	for items, name := range map[string]string{
		"(import n f f)": "n.f", "(import n f) (import n f)": "n.f", "(import n f T c T)": "n.T", "(import n f) (import k f) (import n c f)": "n.f",
		"(import none x x)": "none.x", "(import n none none)": "n.none", "(import m x x)": "m.x",
	} {
		wantRefused(t, inM(t, items), others(t), api.ErrTaken, name)
	}
	for _, items := range []string{
		"(import n f) (import k f)", "(import n f T c) (import k f T c)", "(import n f) (fun f () num 1)", "(import n T) (type T (A) (B))", "(import n c) (const c num 1)", "(import n T U V)", "(import n) (import n) (import n f)",
	} {
		wantNew(t, inM(t, items), others(t))
	}
}

// P8.1: a module that imports from itself, whether there is an interface of it or not.
func TestImportsItself(t *testing.T) {
	l := append(others(t), shown(t, `(module m (export f) (fun f () num 1))`)...)
	for _, items := range []string{"(import m f)", "(import m F)", "(import n f) (import m f)", "(import n f) (import m f) (import n c)", "(import m f) (fun f () num 1)", "(import m f) (import m g)"} {
		wantRefused(t, inM(t, items), l, api.ErrName, "m")
		wantRefused(t, inM(t, items), nil, api.ErrName, "m")
	}
	wantRefused(t, parsed(t, "(module itself (import itself f))"), l, api.ErrName, "itself")
	wantNew(t, inM(t, "(import m) (import n f)"), l)
}

// P8.1: a name that no interface has.
func TestImportsNone(t *testing.T) {
	for items, name := range map[string]string{
		"(import q f)": "q.f", "(import q T)": "q.T", "(import n h)": "n.h", "(import n hidden)": "n.hidden", "(import n Hidden)": "n.Hidden", "(import n A)": "n.A", "(import n n)": "n.n", "(import n N)": "n.N",
		"(import k U)": "k.U", "(import k g)": "k.g", "(import n t)": "n.t", "(import n F)": "n.F", "(import nn f)": "nn.f", "(import n f T) (import k f q) (import q q)": "k.q", "(import q) (import p x)": "p.x",
	} {
		wantRefused(t, inM(t, items), others(t), api.ErrNone, name)
	}
	for items, name := range map[string]string{"(import n f)": "n.f", "(import k f) (import n f)": "k.f", "(import n T)": "n.T"} {
		wantRefused(t, inM(t, items), nil, api.ErrNone, name)
		wantRefused(t, inM(t, items), []api.Iface{}, api.ErrNone, name)
		wantRefused(t, inM(t, items), []api.Iface{{Module: "n"}, {Module: "k"}}, api.ErrNone, name)
	}
	for _, items := range []string{"", "(import q)", "(import q) (import q)"} {
		wantNew(t, inM(t, items), nil)
		wantNew(t, inM(t, items), others(t))
	}
}

// P8.1: of several interfaces of one module the first one counts, whatever it has.
func TestFirstInterfaceCounts(t *testing.T) {
	one, two := shown(t, `(module n (export x T) (const x num 1) (type T (A)))`)[0], shown(t, `(module n (export y T) (const y num 1) (type T (B)))`)[0]
	k := others(t)[1]
	for _, l := range [][]api.Iface{{one, two}, {k, one, two}, {one, k, two, one}} {
		s := wantNew(t, inM(t, "(import n x T)"), l)
		wantCase(t, s, "n.A", "n.T", 0, "A")
		wantNoCase(t, s, "n.B")
		wantRefused(t, inM(t, "(import n y)"), l, api.ErrNone, "n.y")
		wantRefused(t, inM(t, "(import n x y)"), l, api.ErrNone, "n.y")
	}
	wantRefused(t, inM(t, "(import n x)"), []api.Iface{{Module: "n"}, one}, api.ErrNone, "n.x")
	wantNew(t, inM(t, "(import n x)"), []api.Iface{one, {Module: "n"}})
}

// P8.1: types of definitions that are not Known, by themselves and within others.
func TestTypeNotKnown(t *testing.T) {
	for of, name := range map[string]string{
		"T": "m.T", "m.T": "m.T", "n.T": "n.T", "k.T": "k.T", "q.Q": "q.Q", "n.Hidden": "n.Hidden", "n.A": "n.A", "V": "m.V", "k.V": "k.V", "O": "m.O", "Num": "m.Num", "n.Own": "n.Own",
		"(array n.T)": "[n.T]", "(array (array T))": "[[m.T]]", "(fn () n.T)": "()n.T", "(fn (num n.T) Own)": "(num,n.T)m.Own", "(fn (Own n.U) (array num))": "(m.Own,n.U)[num]", "(array (fn ((fn (q.Q) num)) num))": "[((q.Q)num)num]",
	} {
		for _, form := range []string{
			"(type X (X1 num) (X2 num %s))", "(type X (X1 %s Own))", "(const x %s 1)", "(fun x () %s 1)", "(fun x ((y %s)) num 1)", "(fun x ((y num) (z %s)) num 1)", "(fun x ((y Own) (z n.V)) Own 1) (fun z () %s 1)",
		} {
			m := inM(t, "(import n f c V) (import k f) (type Own (O))", fmt.Sprintf(form, of))
			wantRefused(t, m, others(t), api.ErrType, name)
		}
	}
}

// P8.1: types of definitions that are Known: own ones wherever they are defined, and imported ones.
func TestTypeKnown(t *testing.T) {
	for _, of := range []string{"num", "bytes", "Own", "m.Own", "n.T", "n.U", "k.T", "(array n.T)", "(array (array Own))", "(fn () n.T)", "(fn (num n.T k.T n.U Own m.Own) (array Own))", "(array (fn ((fn (k.T) num)) num))"} {
		for _, form := range []string{"(type X (X1 num) (X2 num %s))", "(const x %s 1)", "(fun x () %s 1)", "(fun x ((y num) (z %s)) num 1)"} {
			wantNew(t, inM(t, "(import n f U) (import k T) (import n T)", fmt.Sprintf(form, of), "(type Own (O))"), others(t))
		}
	}
	for _, items := range []string{
		"(type T (A U)) (type U (B T))", "(type T (A T))", "(import n f) (fun g () num (n.f))", // the type of n.f names n.T, but m does not
		"(import n V)",               // a field of V is of n.U
		"(fun f () num (array q.Q))", // bodies are looked at by others
		"(const c num (fn ((x Q)) q.Q 1))",
	} {
		wantNew(t, inM(t, items), others(t))
	}
}

// P8.1: a const's type of MaxText - 2 bytes and longer.
func TestLongConst(t *testing.T) {
	for n := 139; n <= api.MaxText; n++ {
		m := inM(t, longTypes, "(const ahead num 1) (const c", long(n), "1) (const behind num 1)")
		if n <= api.MaxText-2 {
			wantNew(t, m, nil)
		} else {
			wantRefused(t, m, nil, api.ErrLong, "c")
		}
		wantNew(t, inM(t, longTypes, "(type T (A "+long(n)+"))"), nil)
	}
}

// P8.1: a function's type of MaxText bytes and longer, though each of its parts may be.
func TestLongFunction(t *testing.T) {
	for n := 160; n <= 2*api.MaxText; n++ {
		var defs []string
		if m := n - len("()"); m <= api.MaxText {
			defs = append(defs, "(fun f () "+long(m)+" 1)")
		}
		if m := n - len("()num"); m <= api.MaxText {
			defs = append(defs, "(fun f ((x "+long(m)+")) num 1)")
		}
		if m := n - len("(num,)bytes"); m <= api.MaxText {
			defs = append(defs, "(fun f ((x num) (y "+long(m)+")) bytes 1)")
		}
		if m := n - len("()") - 150; 139 <= m && m <= api.MaxText {
			defs = append(defs, "(fun f ((x "+long(m)+")) "+long(150)+" 1)")
		}
		for _, def := range defs {
			m := inM(t, longTypes, "(fun ahead () num 1)", def, "(fun behind () num 1)")
			if n <= api.MaxText {
				s := wantNew(t, m, nil)
				if x, _ := s.Value("f"); len(x.Type) != n {
					t.Errorf("a type of %d bytes, want %d", len(x.Type), n)
				}
			} else {
				wantRefused(t, m, nil, api.ErrLong, "f")
			}
		}
	}
}

// A wrong is some items that are refused, with a name that has a number; a second time they are refused by another one.
type wrong struct {
	items string
	why   api.Errno
	name  string
}

// wrongs are all of them, in the document's order; each % stands for a number.
func wrongs() []wrong {
	return []wrong{
		{"(type Ta% (Tb%)) (type Ta% (Tc%))", api.ErrTaken, "Ta%"},
		{"(type Ca% (Cc%)) (type Cb% (Cd%) (Cc%))", api.ErrTaken, "Cc%"},
		{"(const c% num 1) (const c% num 1)", api.ErrTaken, "c%"},
		{"(import n i% i%)", api.ErrTaken, "n.i%"},
		{"(import m s%)", api.ErrName, "m"},
		{"(import n none%)", api.ErrNone, "n.none%"},
		{"(type F% (Fa%) (Fb% num q.F%))", api.ErrType, "q.F%"},
		{"(const a% q.C% 1)", api.ErrType, "q.C%"},
		{"(fun b% ((x (array q.P%))) q.Q% 1)", api.ErrType, "[q.P%]"},
		{"(const d% LONG 1)", api.ErrLong, "d%"},
		{"(fun e% ((x LONG)) num 1)", api.ErrLong, "e%"},
	}
}

func (w wrong) numbered(n int) wrong {
	number := func(s string) string {
		return strings.ReplaceAll(strings.ReplaceAll(s, "%", fmt.Sprint(n)), "LONG", long(199))
	}
	return wrong{number(w.items), w.why, number(w.name)}
}

// P8.1: each refusal alone, whatever else is there.
func TestEachWrong(t *testing.T) {
	good := "(import n T f) (import k f) (type Good (G num n.T)) (const good Good 1) (fun well ((x n.T)) Good 1)" + longTypes
	for _, w := range wrongs() {
		one := w.numbered(1)
		wantRefused(t, inM(t, good, one.items), others(t), one.why, one.name)
		wantRefused(t, inM(t, one.items, good), others(t), one.why, one.name)
	}
	wantNew(t, inM(t, good), others(t))
}

// P8.1, R3, R8: of two refusals in one module the first in the document's order is told, in whichever order they stand.
func TestPairsOfWrongs(t *testing.T) {
	for k, a := range wrongs() {
		one := a.numbered(1)
		for _, b := range wrongs()[k+1:] {
			two := b.numbered(2)
			wantRefused(t, inM(t, longTypes, one.items, two.items), others(t), one.why, one.name)
			wantRefused(t, inM(t, two.items, one.items, longTypes), others(t), one.why, one.name)
		}
	}
}

// P8.1: all refusals in one module, then all but the first ones.
func TestAllWrongs(t *testing.T) {
	var items []string
	for _, w := range slices.Backward(wrongs()) {
		one := w.numbered(1)
		items = append(items, one.items)
		wantRefused(t, inM(t, longTypes, strings.Join(items, " ")), others(t), one.why, one.name)
	}
}

// R8, R10: of two places of one refusal the first is told.
func TestTwoPlaces(t *testing.T) {
	for _, w := range wrongs() {
		one, two := w.numbered(1), w.numbered(2)
		wantRefused(t, inM(t, longTypes, one.items, two.items), others(t), one.why, one.name)
		wantRefused(t, inM(t, longTypes, two.items, one.items), others(t), two.why, two.name)
	}
	for items, want := range map[string]wrong{
		"(type T (A)) (type U (B)) (type U (C)) (type T (D))":               {"", api.ErrTaken, "U"}, // the first one that is there already
		"(type T (A) (B)) (type U (B) (A))":                                 {"", api.ErrTaken, "B"},
		"(const a num 1) (const b num 1) (fun b () num 1) (fun a () num 1)": {"", api.ErrTaken, "b"},
		"(fun a () num 1) (fun a () num 1) (const b num 1) (const b num 1)": {"", api.ErrTaken, "b"}, // consts ahead of functions
		"(import n f) (import k f f) (import n f)":                          {"", api.ErrTaken, "k.f"},
		"(import n x f) (import k x f) (import k f x) (import n x)":         {"", api.ErrTaken, "k.f"},
		"(import q x) (import n none)":                                      {"", api.ErrNone, "q.x"},
		"(import n none) (import q x)":                                      {"", api.ErrNone, "n.none"},
		"(type T (A num q.A q.B) (B q.C)) (type U (C q.D))":                 {"", api.ErrType, "q.A"},
		"(type T (A num) (B num q.C q.B)) (type U (C q.A))":                 {"", api.ErrType, "q.C"},
		"(fun f ((x num) (y q.B) (z q.A)) q.C 1)":                           {"", api.ErrType, "q.B"},
		"(fun f ((x num)) q.C 1) (fun g ((x q.A)) num 1)":                   {"", api.ErrType, "q.C"},
		"(fun f ((x (fn (q.C) q.A))) q.B 1)":                                {"", api.ErrType, "(q.C)q.A"},
		"(fun g ((x q.A)) num 1) (const c (array q.B) 1)":                   {"", api.ErrType, "[q.B]"},
	} {
		wantRefused(t, inM(t, items), others(t), want.why, want.name)
	}
}

// P8.1: as many of all as may be.
func TestFullModule(t *testing.T) {
	var items, exports, defs []string
	for k := range api.MaxItems {
		items = append(items, fmt.Sprintf("(type T%02d (A%02d T%02d n.T%02d) (B%02d))(const c%02d n.T%02d 1)(fun f%02d()T%02d 1)", k, k, 31-k, k, k, k, k, k, k))
		exports = append(exports, fmt.Sprintf("T%02d", k))
		defs = append(defs, fmt.Sprintf("(type T%02d (A) (B%02d))", k, k))
	}
	l := shown(t, "(module n (export "+strings.Join(exports, " ")+")"+strings.Join(defs, "")+")")
	slices.Reverse(exports)
	s := wantNew(t, inM(t, "(import n", strings.Join(exports, " "), ")", strings.Join(items, "")), l)
	wantCase(t, s, "n.A", "n.T31", 0, "A")
	for k := range api.MaxItems {
		wantCase(t, s, fmt.Sprintf("n.B%02d", k), fmt.Sprintf("n.T%02d", k), 1, fmt.Sprintf("B%02d", k))
		wantCase(t, s, fmt.Sprintf("A%02d", k), fmt.Sprintf("m.T%02d", k), 0, fmt.Sprintf("A%02d", k), fmt.Sprintf("m.T%02d", 31-k), fmt.Sprintf("n.T%02d", k))
		wantValue(t, s, fmt.Sprintf("c%02d", k), api.Const, fmt.Sprintf("n.T%02d", k))
		wantValue(t, s, fmt.Sprintf("f%02d", k), api.Fun, fmt.Sprintf("()m.T%02d", k))
	}
}

// The chapter's runs and examples of New.
func TestRunsAndExamples(t *testing.T) {
	wantRefused(t, parsed(t, `(module m (import n f))`), nil, api.ErrNone, "n.f")
	s := wantNew(t, parsed(t, `(module m (fun f () num 1))`), nil)
	wantValue(t, s, "f", api.Fun, "()num")
	s = wantNew(t, parsed(t, `(module m (import n f))`), others(t)) // example 1
	if s.Known("n.T") {
		t.Error("n.T is Known")
	}
	wantRefused(t, parsed(t, `(module m (type T (A)) (type U (A)))`), nil, api.ErrTaken, "A")                                 // example 2
	for _, source := range []string{`(module m (type t (A)))`, `(module m (const T num 1))`, `(module m (fun T () num 1))`} { // example 3
		if _, why, _ := parse.Module(source); why != api.ErrName {
			t.Errorf("%s: %v", source, why)
		}
	}
	wantNew(t, parsed(t, `(module m (type T (A)) (const t num 1))`), nil)
}
