package iface_test

import (
	"fmt"
	"strings"
	"testing"

	"hawser/api"
	"hawser/iface"
	"hawser/parse"
)

func parsed(t *testing.T, s string) api.Module {
	t.Helper()
	m, why, at := parse.Module(s)
	if why != api.OK {
		t.Fatalf("Module(%.200s): %v at %d", s, why, at)
	}
	return m
}

// wantIface: Of answers of the source s want, which is right, and comes back from its bytes.
func wantIface(t *testing.T, s string, want api.Iface) {
	t.Helper()
	got, why := iface.Of(parsed(t, s))
	if told(got) != told(want) || why != api.OK {
		t.Errorf("Of(%.200s): %s, %v, want %s", s, told(got), why, told(want))
	}
	wantWhy(t, got, api.OK)
}

func wantNoIface(t *testing.T, s string, why api.Errno) {
	t.Helper()
	if got, gotWhy := iface.Of(parsed(t, s)); told(got) != told(api.Iface{}) || gotWhy != why {
		t.Errorf("Of(%.200s): %s, %v, want %v", s, told(got), gotWhy, why)
	}
}

const wholeModule = `(module m (import n f T) (export g T) (export _c) (export f Ab) (export)
	(type T (A) (B num T n.T (array Ab))) (type Ab (A)) (type Hidden (H))
	(fun f ((x num) (y (fn (T) bytes))) (array T) x) (const _c (array T) (array T)) (const hidden num 1) (fun hide () num 1) (fun g () num 1))`

func wholeIface() api.Iface {
	return with(
		typeItem("Ab", caseOf("A")), typeItem("T", caseOf("A"), caseOf("B", "num", "m.T", "n.T", "[m.Ab]")),
		constItem("_c", "[m.T]"), funItem("f", "(num,(m.T)bytes)[m.T]"), funItem("g", "()num"),
	)
}

// P7.2: what is exported, whatever else there is, in order of bytes.
func TestOf(t *testing.T) {
	wantIface(t, wholeModule, wholeIface())
	wantIface(t, `(module m)`, with())
	wantIface(t, `(module m (export))`, with())
	wantIface(t, `(module let (fun f () num 1) (type T (A)))`, api.Iface{Module: "let"})
	wantIface(t, `(module m (export f) (fun f () num 1))`, with(funItem("f", "()num")))
	wantIface(t, `(module m (fun f ((a num) (b T) (c n.T) (d bytes) (e num) (f num)) T 1) (export f))`, with(funItem("f", "(num,m.T,n.T,bytes,num,num)m.T")))
	wantIface(t, `(module m (export c) (const c (fn () num) f))`, with(constItem("c", "()num")))
	wantIface(t, `(module m (export c f) (fun f () (fn (num) num) 1) (const c bytes ""))`, with(constItem("c", "bytes"), funItem("f", "()(num)num")))
	wantIface(t, `(module m (export T) (type U (A)) (type T (B T) (A)))`, with(typeItem("T", caseOf("B", "m.T"), caseOf("A"))))
	wantIface(t, `(module m (export b _ aa a aB a_ Z A) (type A (C)) (type Z (C)) (const a num 1) (const _ num 1) (const aa num 1) (const a_ num 1) (const aB num 1) (const b num 1))`, with(typeItem("A", caseOf("C")), typeItem("Z", caseOf("C")), constItem("_", "num"), constItem("a", "num"), constItem("aB", "num"), constItem("a_", "num"), constItem("aa", "num"), constItem("b", "num")))
}

// P7.2: names that nothing defines: what is imported, cases, parameters, words, and others' names.
func TestOfNone(t *testing.T) {
	for _, name := range []string{"x", "X", "n", "A", "U", "m", "i", "I", "p", "let", "num", "Num", "_", "c1", "F", "t", "C"} {
		s := `(module m (export ` + name + `) (import n i I) (type T (A) (B num)) (const c num 1) (fun f ((p num)) num p))`
		wantNoIface(t, s, api.ErrNone)
		wantNoIface(t, strings.Replace(s, "(export ", "(export f T c ", 1), api.ErrNone)
		wantNoIface(t, strings.Replace(s, ")", " f T c)", 1), api.ErrNone)
	}
}

// P7.2: names that are exported twice, and which refusal comes first.
func TestOfTaken(t *testing.T) {
	for exports, why := range map[string]api.Errno{
		"f f": api.ErrTaken, "c c": api.ErrTaken, "T T": api.ErrTaken, "f c T f": api.ErrTaken, "f) (export f": api.ErrTaken, "T) (export) (export c T": api.ErrTaken, "f f f": api.ErrTaken,
		"f f x": api.ErrTaken, "f x f": api.ErrNone, "x f f": api.ErrNone, "x x": api.ErrNone, "x x f f": api.ErrNone, "c f c x": api.ErrTaken, "c f x c": api.ErrNone, "T T x x": api.ErrTaken,
		"f T c": api.OK, "c f": api.OK,
	} {
		s := `(module m (export ` + exports + `) (type T (A)) (const c num 1) (fun f () num 1))`
		if why != api.OK {
			wantNoIface(t, s, why)
		} else if _, got := iface.Of(parsed(t, s)); got != api.OK {
			t.Errorf("Of(%s): %v", s, got)
		}
	}
}

// P7.2: then what Right answers: of what is exported alone, and behind the refusals of names.
func TestOfThenRight(t *testing.T) {
	for _, c := range []string{`(A) (A)`, `(A) (B) (A num)`} {
		wantNoIface(t, `(module m (export T) (type T `+c+`))`, api.ErrName)
		wantNoIface(t, `(module m (export T x) (type T `+c+`))`, api.ErrNone)
		wantNoIface(t, `(module m (export T T) (type T `+c+`))`, api.ErrTaken)
		wantIface(t, `(module m (export f) (type T `+c+`) (fun f () T 1))`, with(funItem("f", "()m.T")))
	}
	wantIface(t, `(module m (export T U) (type T (A)) (type U (A)))`, with(typeItem("T", caseOf("A")), typeItem("U", caseOf("A"))))
}

// P7.2: a function's type of up to MaxText bytes, and longer.
func TestOfLongFunction(t *testing.T) {
	for n := range 40 {
		named := "n." + longBig // 26 bytes, and a comma behind each parameter but the last
		s := `(module m (export f) (fun f (` + strings.Repeat("(x "+named+")", 6) + `) ` + strings.Repeat("(array ", n/2) + "n." + longBig[:1+n%2] + strings.Repeat(")", n/2) + ` 1))`
		want := "(" + strings.Repeat(named+",", 5) + named + ")" + strings.Repeat("[", n/2) + "n." + longBig[:1+n%2] + strings.Repeat("]", n/2)
		if len(want) != 166+n {
			t.Fatal(len(want))
		}
		if len(want) <= api.MaxText {
			wantIface(t, s, with(funItem("f", want)))
			continue
		}
		wantNoIface(t, s, api.ErrType)
		wantNoIface(t, strings.Replace(s, "(export f)", "(export f f)", 1), api.ErrTaken)
		wantIface(t, strings.Replace(s, "(export f)", "", 1), with())
	}
	s := strings.Repeat("(array ", 37)
	wantIface(t, `(module m (export c) (const c `+s+longBig+strings.Repeat(")", 37)+` 1))`, with(constItem("c", strings.Repeat("[", 37)+"m."+longBig+strings.Repeat("]", 37))))
}

// P7.2: as many exports, cases and fields as may be.
func TestOfFull(t *testing.T) {
	var want, items []string
	for k := range 32 {
		want = append(want, fmt.Sprintf("c%02d", k))
		items = append(items, fmt.Sprintf("(const c%02d num 1)", 31-k))
	}
	for _, exports := range []string{"(export " + strings.Join(want, " ") + ")", "(export " + strings.Join(want[9:], ") (export ") + " " + strings.Join(want[:9], " ") + ")"} {
		var l []api.Item
		for _, name := range want {
			l = append(l, constItem(name, "num"))
		}
		wantIface(t, "(module m "+exports+strings.Join(items, "")+")", with(l...))
	}
	wantIface(t, `(module m (export T) (type T (A num num num num) (B) (C) (D) (E) (F num num num num)))`, with(typeItem("T", caseOf("A", manyFields(4)...), caseOf("B"), caseOf("C"), caseOf("D"), caseOf("E"), caseOf("F", manyFields(4)...))))
}

// P7.2 and R10: what is defined more than once (scope refuses it, parse does not): a function ahead of a const, the first ahead of the others.
func TestOfDefinedTwice(t *testing.T) {
	wantIface(t, `(module m (export f) (fun f () num 1) (fun f () bytes ""))`, with(funItem("f", "()num")))
	wantIface(t, `(module m (export f) (const f num 1) (const f bytes ""))`, with(constItem("f", "num")))
	wantIface(t, `(module m (export T) (type T (A)) (type T (B)))`, with(typeItem("T", caseOf("A"))))
	wantIface(t, `(module m (export f) (const f num 1) (fun f () bytes ""))`, with(funItem("f", "()bytes")))
	wantIface(t, `(module m (export f) (fun f () bytes "") (const f num 1))`, with(funItem("f", "()bytes")))
}

// R1: modules that parse does not make get some answer, and none beside a refusal.
func TestOfAnything(t *testing.T) {
	odd := api.Module{Name: "m", Exports: []string{"", "f", "T", "c"}, Types: []api.TypeDef{{}, {Name: "T"}}, Consts: []api.ConstDef{{Name: "c"}}, Funs: []api.FunDef{{Name: "f", Params: make([]api.Param, 100)}}}
	for k := range odd.Exports {
		for n := range odd.Exports[k:] {
			m := odd
			m.Exports = odd.Exports[k : k+n+1]
			if i, why := iface.Of(m); why == api.OK || told(i) != told(api.Iface{}) {
				t.Errorf("%q: %s, %v", m.Exports, told(i), why)
			}
		}
	}
	many := api.Module{Name: "m"}
	for k := range 33 {
		name := fmt.Sprintf("c%02d", k)
		many.Exports = append(many.Exports, name)
		many.Consts = append(many.Consts, api.ConstDef{Name: name, Type: "num"})
	}
	if i, why := iface.Of(many); told(i) != told(api.Iface{}) || why != api.ErrMany {
		t.Errorf("%s, %v", told(i), why)
	}
}
