package lower_test

import (
	"strings"
	"testing"

	"hawser/api"
)

const plenty = 1 << 16

// wantValue: what is made of the program answers the value.
func (p program) wantValue(t *testing.T, v api.Value) {
	t.Helper()
	if a, _ := p.wantMeaning(t, plenty); told(a) != told(api.Answer{Value: v}) {
		t.Errorf("%s: %.300s, want %.300s", p.told(), told(a), told(api.Answer{Value: v}))
	}
}

// P16.1: code does what expressions mean: each kind, each operation.
func TestKinds(t *testing.T) {
	const items = `(type T (A) (B num bytes) (C T (array T) num num)) (const c num 5) (const d (fn (num) num) twice) (const e (array num) (array num c (twice c) (call d 1))) (fun twice ((x num)) num (add x x)) (fun less ((x num) (y num) (z num)) num (sub x (sub y z)))`
	for _, one := range []struct {
		of, body string
		want     api.Value
	}{
		{"num", "3-2i", num(3 - 2i)}, {"bytes", `"a\x00b"`, text("a\x00b")}, {"bytes", `""`, text("")}, {"num", "c", num(5)}, {"(array num)", "e", array(num(5), num(10), num(2))}, {"(fn (num) num)", "twice", closure()}, {"(fn (num) num)", "d", closure()},
		{"num", "(let x 1 (let y 2 (sub x y)))", num(-1)}, {"num", "(let x 1 (let x (add x 1) (mul x 10)))", num(20)}, {"num", "(add (let x 1 x) (let y 2 (let z 3 (sub y z))))", num(0)}, {"bytes", `(let c "own" c)`, text("own")},
		{"num", "(if 1 2 3)", num(2)}, {"num", "(if 0 2 3)", num(3)}, {"num", "(if 0+1i 2 3)", num(2)}, {"num", "(if (lt 1 2) (if (lt 2 1) 1 2) 3)", num(2)}, {"num", "(add (if 0 1 2) (if 1 (if 0 4 8) 16))", num(10)},
		{"num", "(add 1+2i 3)", num(4 + 2i)}, {"num", "(sub 1 3)", num(-2)}, {"num", "(mul 2 3i)", num(6i)}, {"num", "(neg 2)", num(-2)}, {"num", "(conj 1+2i)", num(1 - 2i)}, {"num", "(re 1+2i)", num(1)}, {"num", "(im 1+2i)", num(2)}, {"num", "(eq 1 1)", num(1)}, {"num", `(eq "a" "b")`, num(0)}, {"num", "(lt 1 2)", num(1)}, {"num", "(lt 2 1)", num(0)},
		{"bytes", `(cat "ab" "cd")`, text("abcd")}, {"(array num)", "(cat (array num 1) e)", array(num(1), num(5), num(10), num(2))}, {"num", `(len "abc")`, num(3)}, {"num", "(len e)", num(3)}, {"num", `(at "abc" 1)`, num('b')}, {"num", "(at e 1)", num(10)}, {"bytes", `(cut "hawser" 1 3)`, text("aw")},
		{"(array num)", "(array num)", array()}, {"(array num)", "(array num 1 (add 1 1) (len (array num 1 2 3)))", array(num(1), num(2), num(3))}, {"(array (array bytes))", `(array (array bytes) (array bytes) (array bytes "a" "b"))`, array(array(), array(text("a"), text("b")))},
		{"T", "(A)", variant(0)}, {"T", `(B 1 "b")`, variant(1, num(1), text("b"))}, {"T", "(C (A) (array T (A)) 1 2)", variant(2, variant(0), array(variant(0)), num(1), num(2))},
		{"num", "(match (A) ((C t l x y) 3) ((B x y) 2) ((A) 1))", num(1)}, {"num", `(match (B 7 "bb") ((C t l x y) 3) ((B x y) (sub x (len y))) ((A) 1))`, num(5)}, {"num", `(match (C (B 1 "") (array T) 8 3) ((A) 1) ((C t l x y) (sub (sub x y) (match t ((A) 100) ((C t l x y) 200) ((B x z) (add x y))))) ((B x y) x))`, num(1)},
		{"num", "(match (C (A) (array T) 8 3) ((A) 1) ((C x x x x) x) ((B x y) x))", num(3)}, {"num", "(add (match (A) ((A) 1) ((B x y) 2) ((C x y z w) 3)) (let q 4 q))", num(5)},
		{"(fn (num) num)", "(fn ((x num)) num x)", closure()}, {"num", "(call (fn () num 1))", num(1)}, {"num", "(call (fn ((x num) (y num)) num (sub x y)) 5 3)", num(2)}, {"num", "(let x 10 (let y 3 (call (fn ((z num)) num (sub (sub y z) x)) 1)))", num(-8)}, {"num", "(let x 10 (let y 3 (call (fn ((x num)) num (sub y x)) 1)))", num(2)}, {"num", "(let x 10 (let x 3 (call (fn () num x))))", num(3)},
		{"num", "(let x 1 (let f (fn () num x) (let x 2 (add (call f) x))))", num(3)}, {"num", "(call (call (call (fn ((x num)) (fn (num) (fn (num) num)) (fn ((y num)) (fn (num) num) (fn ((z num)) num (sub (sub x y) z)))) 10) 3) 2)", num(5)},
		{"num", "(call d 4)", num(8)}, {"num", "(call twice 4)", num(8)}, {"num", "(call (at (array (fn (num) num) twice d (fn ((x num)) num (mul x c))) 2) 3)", num(15)}, {"num", "(twice (twice 3))", num(12)}, {"num", "(less 10 5 2)", num(7)}, {"num", "(call less 10 5 2)", num(7)}, {"num", "(let twice 1 (add twice (twice twice)))", num(3)},
	} {
		inModule(t, items+"(fun f () "+one.of+" "+one.body+")").wantValue(t, one.want)
		inModule(t, items+"(const it "+one.of+" "+one.body+") (fun f () "+one.of+" it)").wantValue(t, one.want)
		inModule(t, items+"(fun f () "+one.of+" (call (fn () "+one.of+" "+one.body+")))").wantValue(t, one.want)
		inModule(t, items+"(fun f () "+one.of+" (let a 1 (let b \"\" (if a "+one.body+" "+one.body+"))))").wantValue(t, one.want)
		inModule(t, items+"(fun g ((x num) (q T)) "+one.of+" (match q ((B x y) "+one.body+") ((A) "+one.body+") ((C t x y z) "+one.body+"))) (fun f () "+one.of+" (g 1 (B 2 \"\")))").wantValue(t, one.want)
	}
}

// P16.1: what ends an expression ends its code, in the same place.
func TestEnds(t *testing.T) {
	for body, want := range map[string]api.Errno{
		"(add 1048576 1)": api.ErrRange, "(add (add 1048576 1) (at \"\" 0))": api.ErrRange, "(add (at \"\" 0) (add 1048576 1))": api.ErrIndex, "(let x (at \"\" 0) (add 1048576 1))": api.ErrIndex, "(if (at \"\" 0) (add 1048576 1) 1)": api.ErrIndex, "(if 1 1 (at \"\" 0))": api.OK, "(if 0 (at \"\" 0) 1)": api.OK,
		"(g (at \"\" 0) (add 1048576 1))": api.ErrIndex, "(g (add 1048576 1) (at \"\" 0))": api.ErrRange, "(call g (at \"\" 0) (add 1048576 1))": api.ErrIndex, "(call (at (array (fn () num)) 0))": api.ErrIndex, "(call (if (at \"\" 0) g g) (add 1048576 1) 1)": api.ErrIndex, "(len (array num (at \"\" 0) (add 1048576 1)))": api.ErrIndex, "(len (array num 1 (add 1048576 1) (at \"\" 0)))": api.ErrRange,
		"(match (B (at \"\" 0) (add 1048576 1)) ((A) 1) ((B x y) (add 1048576 1)))": api.ErrIndex, "(match (A) ((A) 1) ((B x y) (at \"\" 0)))": api.OK, "(call (fn () num (at \"\" 0)))": api.ErrIndex, "(let x (fn () num (at \"\" 0)) 1)": api.OK, "(len (cut \"abc\" 2 1))": api.ErrIndex, "(len (cut \"abc\" 1 (add 1048576 1)))": api.ErrRange,
	} {
		p := inModule(t, "(type T (A) (B num num)) (fun g ((x num) (y num)) num x) (fun f () num "+body+")")
		if a, _ := p.wantMeaning(t, plenty); a.Why != want {
			t.Errorf("%s: %v, want %v", body, a.Why, want)
		}
	}
	for items, want := range map[string]api.Errno{
		"(const a num (f)) (const b num 1) (fun f () num b)": api.ErrInit, "(const b num 1) (const a num (f)) (fun f () num b)": api.OK, "(const a num (call (fn () num (call f)))) (const b num 1) (fun f () num b)": api.ErrInit, "(const a (fn () num) f) (const b num 1) (fun f () num b)": api.OK,
		"(const a num 1) (const c num (at \"\" a)) (const b num (add 1048576 1)) (fun f () num 1)": api.ErrIndex, "(fun f () (array num) (g (array num 1 2 3 4) 10)) (fun g ((l (array num)) (n num)) (array num) (if n (g (cat l l) (sub n 1)) l))": api.ErrRange, "(fun f () (array num) (g (array num 1 2 3 4) 9)) (fun g ((l (array num)) (n num)) (array num) (if n (g (cat l l) (sub n 1)) l))": api.ErrHeap,
	} {
		if a, _ := inModule(t, items).wantMeaning(t, plenty); a.Why != want {
			t.Errorf("%s: %v, want %v", items, a.Why, want)
		}
	}
}

// P16.1: names of other modules mean what they mean there.
func TestSeveralModules(t *testing.T) {
	l := readAll(t,
		"(module n (export T c d add1 make use twice) (type T (Q) (P num)) (const c num 10) (const k num 3) (const d (fn (num) num) add1) (fun add1 ((x num)) num (add x k)) (fun make ((k num)) (fn (num) num) (fn ((x num)) num (add (mul x k) c))) (fun use ((t T)) num (match t ((P x) x) ((Q) -1))) (fun twice ((p (fn (num) num)) (x num)) num (call p (call p x))))",
		"(module m (import n T c d add1 make use twice) (export f g h i j) (type T (P num) (Q)) (const c num 5) (const k num 7) (const made (fn (num) num) (n.make 2)) (fun f ((x num)) num (n.twice (fn ((y num)) num (add (add y x) k)) c)) (fun g () (array n.T) (array n.T (n.P (call n.d 1)) (n.Q))) (fun h ((t T)) n.T (match t ((P x) (n.P (add x n.c))) ((Q) (n.Q)))) (fun i ((x num)) num (call made (n.twice n.add1 x))) (fun j ((t n.T)) num (n.use (match t ((n.Q) (n.P 100)) ((n.P y) (if y (n.Q) (n.P 200)))))))",
	)
	program{l, "m.f", []api.Value{num(1)}}.wantValue(t, num(5+8+8))
	program{l, "m.g", nil}.wantValue(t, array(variant(1, num(4)), variant(0)))
	program{l, "m.h", []api.Value{variant(0, num(2))}}.wantValue(t, variant(1, num(12)))
	program{l, "m.h", []api.Value{variant(1)}}.wantValue(t, variant(0))
	program{l, "m.i", []api.Value{num(1)}}.wantValue(t, num(24))
	program{l, "m.j", []api.Value{variant(0)}}.wantValue(t, num(100))
	program{l, "m.j", []api.Value{variant(1, num(0))}}.wantValue(t, num(200))
	program{l, "m.j", []api.Value{variant(1, num(5))}}.wantValue(t, num(-1))
	program{l, "n.make", []api.Value{num(1)}}.wantValue(t, closure())
}

// P16.1: as many calls are open as the meaning has, and one of a const.
func TestOpenCalls(t *testing.T) {
	const down = "(fun down ((n num)) num (if n (add 1 (down (sub n 1))) 0))"
	p := inModule(t, down+"(fun f () num (down 500))")
	if _, took := p.wantMeaning(t, plenty); took.deepest != 502 {
		t.Errorf("%d calls", took.deepest)
	}
	p = inModule(t, down+"(const c num (down 998)) (fun f () num c)")
	if _, took := p.wantMeaning(t, plenty); took.deepest != 1000 {
		t.Errorf("%d calls", took.deepest)
	}
	p = inModule(t, "(fun f () num (let g (fn ((x num)) num (call (fn () num x))) (match (P 1 2 3 4) ((P a b c d) (if a (add (call g a) (call g b)) 1)))))"+typeP)
	if _, took := p.wantMeaning(t, plenty); took.deepest != 3 {
		t.Errorf("%d calls", took.deepest)
	}
}

// P16.1: no more than 32 instructions for each expression, and no more heap than it may spend: of those whose costs are not lost among those of many others.
func TestSpentOfOne(t *testing.T) {
	const items = "(type T (Q) (R num num num num)) (const c num 1) (fun g ((a num) (b num) (c num) (d num) (e num) (f num)) num 1)"
	for body, leaves := range map[string]int{ // of these expressions so many are numbers, which begin one instruction each
		"1": 1, "c": 1, "(neg 1)": 1, "(sub 1 2)": 2, "(len \"\")": 0, "(len \"" + strings.Repeat("x", 200) + "\")": 0, "(len (cat \"12345678\" \"12345678\"))": 0, "(len (cut \"12345678\" 0 8))": 2, "(let x 1 2)": 2, "(if 1 2 3)": 2, "(if 0 2 3)": 2,
		"(len (array num))": 0, "(len (array num " + times(32, "1") + "))": 32, "(len (cat (array num " + times(16, "1") + ") (array num " + times(16, "1") + ")))": 32, "(match (Q) ((Q) 1) ((R x y z w) 2))": 1, "(match (R 1 2 3 4) ((Q) 1) ((R x y z w) 2))": 5, "(match (R 1 2 3 4) ((R x y z w) 2) ((Q) 1))": 5,
		"(g 1 2 3 4 5 6)": 7, "(call g 1 2 3 4 5 6)": 7, "(call (fn () num 1))": 1, "(call (fn ((a num) (b num) (c num) (d num) (e num) (f num)) num 1) 1 2 3 4 5 6)": 7, "(let x g 1)": 1,
	} {
		wantSpent(t, items+"(fun f () num "+body+")", leaves)
	}
	ahead := wantSpent(t, fun(binds(24, "a", "(len (array num 1))")), 25)
	many := wantSpent(t, fun(binds(24, "a", "(len (array (fn () num) (fn () num "+names(24, "a")+")))")), 24)
	if more := many.begun - ahead.begun; more > 31 {
		t.Errorf("a Lambda that takes 24 along begins %d", more+1)
	}
	if more := many.heap - ahead.heap; more > 8*25 {
		t.Errorf("a Lambda that takes 24 along spends %d", more)
	}
}

// wantSpent: what a program takes, but for its leaves and a Ret, is no more than what its other expressions may spend.
func wantSpent(t *testing.T, items string, leaves int) spent {
	t.Helper()
	p := inModule(t, items)
	a, took := p.wantMeaning(t, plenty)
	_, may := byModel(p.l, p.entry, p.args, plenty)
	if a.Why != api.OK || may.begun < 32*leaves || took.begun-leaves > may.begun-32*leaves+1 || took.heap > may.heap-8*leaves {
		t.Errorf("%.100s: %v, took %+v, may %+v, of which %d are leaves", items, a.Why, took, may, leaves)
	}
	return took
}
