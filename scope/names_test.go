package scope_test

import (
	"fmt"
	"strings"
	"testing"

	"hawser/api"
	"hawser/scope"
)

func wantValue(t testing.TB, s *scope.Scope, name string, kind int, typed string) {
	t.Helper()
	want := api.Item{Kind: kind, Name: name[strings.LastIndexByte(name, '.')+1:], Type: typed}
	if got, ok := s.Value(name); !ok || toldItem(got) != toldItem(want) {
		t.Errorf("Value(%q): %s, %v, want %s", name, toldItem(got), ok, toldItem(want))
	}
}

func wantNoValue(t testing.TB, s *scope.Scope, name string) {
	t.Helper()
	if got, ok := s.Value(name); ok || toldItem(got) != toldItem(api.Item{}) {
		t.Errorf("Value(%q): %s, %v", name, toldItem(got), ok)
	}
}

func wantCase(t testing.TB, s *scope.Scope, name, owner string, number int, caseName string, fields ...string) {
	t.Helper()
	want := toldCase(api.Case{Name: caseName, Fields: fields})
	if gotOwner, gotNumber, got, ok := s.Case(name); !ok || gotOwner != owner || gotNumber != number || toldCase(got) != want {
		t.Errorf("Case(%q): %q %d %s, %v, want %q %d %s", name, gotOwner, gotNumber, toldCase(got), ok, owner, number, want)
	}
}

func wantNoCase(t testing.TB, s *scope.Scope, name string) {
	t.Helper()
	if owner, number, got, ok := s.Case(name); ok || owner != "" || number != 0 || toldCase(got) != toldCase(api.Case{}) {
		t.Errorf("Case(%q): %q %d %s, %v", name, owner, number, toldCase(got), ok)
	}
}

func wantCases(t testing.TB, s *scope.Scope, name string, want ...api.Case) {
	t.Helper()
	if got, ok := s.Cases(name); !ok || toldCases(got) != toldCases(want) {
		t.Errorf("Cases(%q): %s, %v, want %s", name, toldCases(got), ok, toldCases(want))
	}
}

func wantNoCases(t testing.TB, s *scope.Scope, name string) {
	t.Helper()
	if got, ok := s.Cases(name); ok || len(got) > 0 {
		t.Errorf("Cases(%q): %s, %v", name, toldCases(got), ok)
	}
}

func wantKnown(t testing.TB, s *scope.Scope, typed string, want bool) {
	t.Helper()
	if s.Known(typed) != want {
		t.Errorf("Known(%q): %v", typed, !want)
	}
}

func caseOf(name string, fields ...string) api.Case { return api.Case{Name: name, Fields: fields} }

// The module of most tests: its names are those of others, too, and what it imports of them is not all.
const sourceM = `(module m (import n V f U) (import k c T) (import n c) (export f T)
	(type T (D num) (E T n.U k.T)) (type A (A (array T)))
	(const c (fn (num) k.T) 1) (const d bytes "") (fun f ((x num) (y T)) n.U 1) (fun g () (array A) 1))`

func mine(t testing.TB) *scope.Scope { return wantNew(t, parsed(t, sourceM), others(t)) }

// P8.2: own consts and functions, and those that are imported.
func TestValue(t *testing.T) {
	s := mine(t)
	wantValue(t, s, "c", api.Const, "(num)k.T")
	wantValue(t, s, "d", api.Const, "bytes")
	wantValue(t, s, "f", api.Fun, "(num,m.T)n.U")
	wantValue(t, s, "g", api.Fun, "()[m.A]")
	wantValue(t, s, "n.f", api.Fun, "()n.T")
	wantValue(t, s, "n.c", api.Const, "num")
	wantValue(t, s, "k.c", api.Const, "bytes")
	for _, name := range []string{
		"", ".", "f.", ".f", "x", "y", "m", "n", "k", "q", "T", "A", "D", "num", "F", "ff", "f ", "n. f", "n.f.f", "n..f", "m.n.f", "f.n", "\x00", "\xff", "()num", strings.Repeat("f", 1000),
		"m.c", "m.f", "m.T", // own ones by the module's name
		"n.T", "n.U", "k.T", // types
		"n.g", "k.f", // exported, not imported
		"n.hidden", "n.h", "q.f", "nn.f", "n.D", "n.d", "k.g",
	} {
		wantNoValue(t, s, name)
	}
}

// P8.2: cases of own types, and of those that are imported.
func TestCase(t *testing.T) {
	s := mine(t)
	wantCase(t, s, "D", "m.T", 0, "D", "num")
	wantCase(t, s, "E", "m.T", 1, "E", "m.T", "n.U", "k.T")
	wantCase(t, s, "A", "m.A", 0, "A", "[m.T]")
	wantCase(t, s, "n.D", "n.V", 0, "D")
	wantCase(t, s, "n.C", "n.V", 1, "C", "n.U") // V is imported ahead of U
	wantCase(t, s, "n.B", "n.U", 0, "B", "bytes", "n.T")
	wantCase(t, s, "k.C", "k.T", 0, "C")
	wantCase(t, s, "k.A", "k.T", 1, "A", "bytes")
	for _, name := range []string{
		"", ".", "D.", ".D", "T", "B", "C", "F", "a", "d", "f", "c", "n", "DD", "D ", "n.D.", "n..D", "m.n.D", "n. D", "\x00", "\xff", strings.Repeat("D", 1000),
		"m.D", "m.E", "m.A", // own ones by the module's name
		"n.A", // of a type that is not imported
		"n.H", "k.B", "k.D", "n.E", "q.D", "nn.D", "n.T", "n.V", "k.T", "n.f", "T.D", "m.T.D", "n.V.D",
	} {
		wantNoCase(t, s, name)
	}
}

// P8.2: of several types of one module that have a case the first one, as the imports stand, not as the interface does.
func TestCaseOfSeveral(t *testing.T) {
	for imports, want := range map[string]string{
		"(import n T U)": "n.T 1", "(import n U T)": "n.U 0", "(import n U) (import k T) (import n T)": "n.U 0", "(import n V T U)": "n.T 1", "(import n V U T)": "n.U 0", "(import n T)": "n.T 1", "(import n U)": "n.U 0", "(import n c T) (import n U)": "n.T 1",
	} {
		owner, number, c, ok := wantNew(t, inM(t, imports), others(t)).Case("n.B")
		if got := fmt.Sprint(owner, " ", number); got != want || c.Name != "B" || !ok {
			t.Errorf("%s: Case(n.B): %s %s, want %s", imports, got, toldCase(c), want)
		}
	}
	s := wantNew(t, inM(t, "(import k T) (import n U T)"), others(t))
	wantCase(t, s, "k.C", "k.T", 0, "C")
	wantCase(t, s, "n.C", "n.U", 1, "C")
	wantCase(t, s, "n.A", "n.T", 0, "A", "num")
	wantCase(t, s, "k.A", "k.T", 1, "A", "bytes")
	wantCases(t, s, "n.T", caseOf("A", "num"), caseOf("B"))
	wantCases(t, s, "n.U", caseOf("B", "bytes", "n.T"), caseOf("C"))
}

// P8.2: the cases of own and imported types alone.
func TestCases(t *testing.T) {
	s := mine(t)
	wantCases(t, s, "m.T", caseOf("D", "num"), caseOf("E", "m.T", "n.U", "k.T"))
	wantCases(t, s, "m.A", caseOf("A", "[m.T]"))
	wantCases(t, s, "n.V", caseOf("D"), caseOf("C", "n.U"))
	wantCases(t, s, "n.U", caseOf("B", "bytes", "n.T"), caseOf("C"))
	wantCases(t, s, "k.T", caseOf("C"), caseOf("A", "bytes"))
	for _, name := range []string{
		"", ".", "m.", ".T", "T", "A", "V", "num", "bytes", "[m.T]", "()m.T", "(m.T)m.T", "m.D", "m.V", "m.c", "m.f", "k.V", "k.U", "q.T", "mm.T", "m.TT", "m.T ", " m.T", "m.T.D", "n.f", "n.c", "\xff",
		"n.T",      // exported, not imported
		"n.Hidden", // not even exported
	} {
		wantNoCases(t, s, name)
	}
}

// P8.2: types whose Names are all known, and others.
func TestKnown(t *testing.T) {
	s := mine(t)
	deep := func(core string, n int) string { return strings.Repeat("[", n) + core + strings.Repeat("]", n) }
	for _, typed := range []string{
		"num", "bytes", "m.T", "m.A", "n.V", "n.U", "k.T", "[m.T]", "[[k.T]]", "()num", "()n.U", "(n.U)num", "(m.T,m.A,n.V,n.U,k.T,num)[(m.T)m.T]", "((n.U)()m.A)[num]", deep("num", 98), deep("m.T", 98), "()" + deep("m.T", 97),
	} {
		wantKnown(t, s, typed, true)
	}
	for _, typed := range []string{
		"", "T", "x", "Num", "m", "m.", ".T", "m.t", "M.T", "[m.T", "m.T]", "(m.T)", "()", "m.T,m.T", "(m.T,)num", " num", "num ", "\xff", "(num,num,num,num,num,num,num)num", deep("num", 99), deep("m.T", 99), deep("num", 10000), deep("k.T", 99), "(" + deep("m.T", 97) + ")num",
		"m.V", "m.D", "m.c", "k.V", "k.U", "q.T", "n.Hidden", "n.A",
		"n.T", "[n.T]", "()n.T", "(n.T)num", "(num,n.V,n.T)num", "(m.T)n.T", "((n.T)num)num", "[()[n.T]]", // exported, not imported
	} {
		wantKnown(t, s, typed, false)
	}
}

// P8.2: a module without items knows nothing but the types that need no names.
func TestEmptyModule(t *testing.T) {
	l := append(others(t), shown(t, `(module m (export T f) (type T (A)) (fun f () num 1))`)...)
	for _, given := range [][]api.Iface{nil, {}, l} {
		s := wantNew(t, parsed(t, "(module m)"), given)
		for _, name := range []string{"", "m", "f", "m.f", "n.f", "T", "m.T", "n.T", "A", "m.A", "n.A"} {
			wantNoValue(t, s, name)
			wantNoCase(t, s, name)
			wantNoCases(t, s, name)
			wantKnown(t, s, name, false)
		}
		for _, typed := range []string{"num", "bytes", "[num]", "(num)[bytes]"} {
			wantKnown(t, s, typed, true)
			wantNoCases(t, s, typed)
		}
	}
}

// P8.2: names as long as may be, of 24 bytes each.
func TestLongNames(t *testing.T) {
	own, other, big, small := "m"+strings.Repeat("_", 23), "n"+strings.Repeat("9", 23), "B"+strings.Repeat("b", 23), "s"+strings.Repeat("S", 23)
	l := shown(t, "(module "+other+" (export "+big+" "+small+") (type "+big+" ("+big+" "+big+")) (fun "+small+" () "+big+" 1))")
	m := parsed(t, "(module "+own+" (import "+other+" "+big+" "+small+") (type "+big+" ("+big+" "+big+" "+other+"."+big+")) (const "+small+" (array "+big+") 1))")
	s := wantNew(t, m, l)
	wantValue(t, s, small, api.Const, "["+own+"."+big+"]")
	wantValue(t, s, other+"."+small, api.Fun, "()"+other+"."+big)
	wantCase(t, s, big, own+"."+big, 0, big, own+"."+big, other+"."+big)
	wantCase(t, s, other+"."+big, other+"."+big, 0, big, other+"."+big)
	wantCases(t, s, other+"."+big, caseOf(big, other+"."+big))
	wantKnown(t, s, "("+own+"."+big+","+other+"."+big+")num", true)
	wantKnown(t, s, own+"_."+big, false)
}

// P8.2: two Scopes know nothing of each other.
func TestTwoScopes(t *testing.T) {
	a, b := mine(t), wantNew(t, parsed(t, "(module n (type T (Z)) (fun z () T 1))"), nil)
	wantNoValue(t, a, "z")
	wantNoCase(t, a, "Z")
	wantKnown(t, a, "n.T", false)
	wantKnown(t, b, "n.T", true)
	wantNoValue(t, b, "f")
	wantNoCases(t, b, "m.T")
	wantValue(t, b, "z", api.Fun, "()n.T")
	wantCases(t, b, "n.T", caseOf("Z"))
}
