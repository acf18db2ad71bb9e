package mean_test

import (
	"fmt"
	"strings"
	"testing"

	"hawser/api"
	"hawser/mean"
	"hawser/parse"
)

// plenty is fuel that all programs of these tests but those that ask for more come out with.
const plenty = 1 << 20

func read(t testing.TB, source string) api.Module {
	t.Helper()
	m, why, at := parse.Module(source)
	if why != api.OK {
		t.Fatalf("%s: %v at %d", source, why, at)
	}
	return m
}

func readAll(t testing.TB, sources ...string) []api.Module {
	t.Helper()
	var l []api.Module
	for _, source := range sources {
		l = append(l, read(t, source))
	}
	return l
}

func num(c complex128) api.Value { return api.Value{Kind: api.Num, N: c} }

func text(s string) api.Value { return api.Value{Kind: api.Bytes, B: []byte(s)} }

func array(kids ...api.Value) api.Value { return api.Value{Kind: api.Array, Kids: kids} }

func variant(number int, kids ...api.Value) api.Value {
	return api.Value{Kind: api.Variant, Case: number, Kids: kids}
}

func closure() api.Value { return api.Value{Kind: api.Closure} }

// nums is an array of so many numbers.
func nums(many int) api.Value {
	v := array()
	for k := range many {
		v.Kids = append(v.Kids, num(complex(float64(k), 0)))
	}
	return v
}

// told tells all of a value, a -0 too.
func told(v api.Value) string {
	var kids []string
	for _, kid := range v.Kids {
		kids = append(kids, told(kid))
	}
	return fmt.Sprintf("{%d %d %v %q [%s]}", v.Kind, v.Case, v.N, v.B, strings.Join(kids, " "))
}

func toldAnswer(a api.Answer, begun int) string {
	return fmt.Sprintf("%d %s %d", int(a.Why), told(a.Value), begun)
}

// program is what Run is given.
type program struct {
	l     []api.Module
	entry string
	args  []api.Value
	fuel  int
}

func (p program) run() string { return toldAnswer(mean.Run(p.l, p.entry, p.args, p.fuel)) }

// inModule is a program of one module, m, of some definitions, of which f is called.
func inModule(t testing.TB, definitions string, args ...api.Value) program {
	t.Helper()
	return program{readAll(t, "(module m (export f) "+definitions+")"), "m.f", args, plenty}
}

// wantValue: the program answers the value, behind so many expressions.
func (p program) wantValue(t *testing.T, v api.Value, begun int) {
	t.Helper()
	if got, want := p.run(), toldAnswer(api.Answer{Value: v}, begun); got != want {
		t.Errorf("%s %s: %s, want %s", p.entry, parse.Print(p.l[0]), got, want)
	}
}

// wantEnd: the program ends, behind so many expressions.
func (p program) wantEnd(t *testing.T, why api.Errno, begun int) {
	t.Helper()
	if got, want := p.run(), toldAnswer(api.Answer{Why: why}, begun); got != want {
		t.Errorf("%s %d modules: %s, want %s", p.entry, len(p.l), got, want)
	}
}

// The chapter's runs.
func TestRuns(t *testing.T) {
	inModule(t, "(fun f ((x num)) num (mul x x))", num(2i)).wantValue(t, num(-4), 3)
	inModule(t, `(fun f () num (at "ab" 2))`).wantEnd(t, api.ErrIndex, 3)
}

// The chapter's examples.
func TestExamples(t *testing.T) {
	first := inModule(t, "(fun f () num 1)")
	first.fuel = 0
	first.wantEnd(t, api.ErrFuel, 0)

	inModule(t, "(const a num (g)) (const b num 1) (fun g () num b) (fun f () num 1)").wantEnd(t, api.ErrInit, 2)

	third := inModule(t, "(fun f () num (f))")
	third.wantEnd(t, api.ErrDepth, 1000)
	third.fuel = 999
	third.wantEnd(t, api.ErrFuel, 999)
}

// sample is an expression of a type, what it gives, and how many expressions are begun in it.
type sample struct {
	of, source string
	want       api.Value
	why        api.Errno
	begun      int
}

// around is what the samples stand in: its consts begin 3 expressions.
const around = `(type T (A) (B num bytes) (C (array T) (fn (num) num)))
	(const c num 9) (const d bytes "de") (const k (fn (num) num) g)
	(fun g ((x num)) num (add x 1)) (fun h ((a num) (b num)) num (sub a b)) (fun z () bytes "zz") (fun y ((t T)) T t) (fun c2 () (fn (num) num) (fn ((x num)) num (mul x c)))`

func (s sample) wantIt(t *testing.T) {
	t.Helper()
	p := inModule(t, around+"(fun f () "+s.of+" "+s.source+")")
	if s.why != api.OK {
		p.wantEnd(t, s.why, 3+s.begun)
		return
	}
	p.wantValue(t, s.want, 3+s.begun)
}

func gives(of, source string, want api.Value, begun int) sample {
	return sample{of: of, source: source, want: want, begun: begun}
}

func endsWith(of, source string, why api.Errno, begun int) sample {
	return sample{of: of, source: source, why: why, begun: begun}
}

// 'Values', P12.4: each kind of expression but Op.
func TestKinds(t *testing.T) {
	for _, s := range []sample{
		gives("num", "7", num(7), 1), gives("num", "-2+3i", num(-2+3i), 1), gives("num", "-0", num(0), 1), gives("num", "0-0i", num(0), 1), gives("num", "1048576-1048576i", num(1048576-1048576i), 1),
		gives("bytes", `""`, text(""), 1), gives("bytes", `"a\x00\xff"`, text("a\x00\xff"), 1),

		gives("num", "c", num(9), 1), gives("bytes", "d", text("de"), 1), gives("(fn (num) num)", "g", closure(), 1), gives("(fn (num) num)", "k", closure(), 1), gives("num", `(let c 1 c)`, num(1), 3), gives("num", `(let g 1 g)`, num(1), 3),

		gives("num", "(let x 2 (add x x))", num(4), 5), gives("num", "(let x 1 (let x 2 x))", num(2), 5), gives("num", "(add (let x 1 (let x 2 x)) (let x 3 x))", num(5), 9), gives("num", "(let x 1 (add (let x 2 x) x))", num(3), 7), gives("num", "(let x 5 (let y (let x 6 x) (sub x y)))", num(-1), 9), gives("num", "(let x 1 (let x (add x x) x))", num(2), 7),
		endsWith("num", `(let x (at "" 0) 1)`, api.ErrIndex, 4),

		gives("num", "(if 1 2 3)", num(2), 3), gives("num", "(if 0 2 3)", num(3), 3), gives("num", "(if 1i 2 3)", num(2), 3), gives("num", "(if -1 2 3)", num(2), 3), gives("num", `(if 0 (at "" 0) 5)`, num(5), 3), gives("num", `(if 1 5 (at "" 0))`, num(5), 3), endsWith("num", `(if (at "" 0) 1 2)`, api.ErrIndex, 4), endsWith("num", `(if 1 (at "" 0) 2)`, api.ErrIndex, 5),

		gives("(array num)", "(array num)", array(), 1), gives("(array num)", "(array num 1 (add 1 1) 3)", array(num(1), num(2), num(3)), 6), gives("(array (array bytes))", `(array (array bytes) (array bytes) (array bytes "a" d))`, array(array(), array(text("a"), text("de"))), 5), gives("(array (fn (num) num))", "(array (fn (num) num) g (fn ((x num)) num x))", array(closure(), closure()), 3),
		endsWith("(array num)", `(array num 1 (at "" 0) (add 1048576 1))`, api.ErrIndex, 5),

		gives("T", "(A)", variant(0), 1), gives("T", `(B 1 "q")`, variant(1, num(1), text("q")), 3), gives("T", `(C (array T (A) (C (array T) g)) k)`, variant(2, array(variant(0), variant(2, array(), closure())), closure()), 7), endsWith("T", `(B (at "" 0) (cut "" 1 1))`, api.ErrIndex, 4),

		gives("bytes", `(match (B 1 "q") ((A) "") ((B x y) y) ((C x y) ""))`, text("q"), 5), gives("bytes", `(match (A) ((B x y) y) ((C x y) "") ((A) "z"))`, text("z"), 3), gives("num", `(match (C (array T (A) (A)) g) ((C l p) (call p (len l))) ((A) 0) ((B x y) 0))`, num(3), 13), gives("num", `(match (B 4 "q") ((B x x) (len x)) ((A) 0) ((C x y) 0))`, num(1), 6), gives("num", `(let x 3 (match (B 4 "q") ((B y z) (add x y)) ((A) x) ((C x y) 0)))`, num(7), 9), gives("num", `(let x 3 (add (match (B 4 "q") ((B x z) x) ((A) x) ((C x y) 0)) x))`, num(7), 9),
		endsWith("num", `(match (B (at "" 0) "q") ((B x y) x) ((A) 0) ((C x y) 0))`, api.ErrIndex, 5), endsWith("num", `(match (B 4 "q") ((B x y) (at y x)) ((A) 0) ((C x y) 0))`, api.ErrIndex, 7),

		gives("(fn () num)", "(fn () num 1)", closure(), 1), gives("(fn () num)", `(fn () num (at "" 0))`, closure(), 1), gives("num", "(call (fn ((x num)) num (add x 1)) 4)", num(5), 6), gives("num", "(let y 3 (call (fn ((x num)) num (add x y)) 4))", num(7), 8), gives("num", "(let y 3 (let p (fn () num y) (let y 4 (call p))))", num(3), 9), gives("num", "(call (fn ((x num) (x num)) num x) 1 2)", num(2), 5), gives("num", "(let x 1 (call (fn ((x num)) num x) 2))", num(2), 6), gives("num", "(call (call (fn ((x num)) (fn (num) num) (fn ((y num)) num (sub x y))) 5) 3)", num(2), 9), gives("num", "(let p (let x 4 (fn ((y num)) num (add x y))) (call p 1))", num(5), 10),
		gives("(fn (num) num)", "(match (B 1 \"q\") ((A) g) ((B n q) (fn ((x num)) num (add n (len q)))) ((C l p) p))", closure(), 5),
		gives("num", "(call (match (B 1 \"qq\") ((A) g) ((B n q) (fn ((x num)) num (add x (add n (len q))))) ((C l p) p)) 4)", num(7), 13),

		gives("num", "(call g 5)", num(6), 6), gives("num", "(call k 5)", num(6), 6), gives("num", "(call (c2) 5)", num(45), 7), gives("num", "(call (at (array (fn (num) num) g (c2)) 1) 2)", num(18), 11), gives("bytes", "(call z)", text("zz"), 3), endsWith("num", `(call (at (array (fn (num) num)) 0) (add 1048576 1))`, api.ErrIndex, 4), endsWith("num", `(call g (at "" 0))`, api.ErrIndex, 5),

		gives("num", "(g 5)", num(6), 5), gives("bytes", "(z)", text("zz"), 2), gives("num", "(h 5 3)", num(2), 6), gives("num", "(h (g 5) (g 3))", num(2), 14), gives("T", "(y (A))", variant(0), 3), gives("num", "(let g 7 (g g))", num(8), 7), endsWith("num", `(h (at "" 0) (add 1048576 1))`, api.ErrIndex, 4),
	} {
		s.wantIt(t)
	}
}

// 'Values': each operation, its edges, and that its Kids are begun from the left.
func TestOps(t *testing.T) {
	const wrong, other = `(at "" 0)`, "(add 1048576 1)"
	for _, s := range []sample{
		gives("num", "(add 1+2i 3-1i)", num(4+1i), 3), gives("num", "(sub 1+2i 3-1i)", num(-2+3i), 3), gives("num", "(mul 1+2i 3-1i)", num(5+5i), 3), gives("num", "(neg 1-2i)", num(-1+2i), 2), gives("num", "(neg 0)", num(0), 2), gives("num", "(conj 1-2i)", num(1+2i), 2), gives("num", "(conj 3)", num(3), 2), gives("num", "(re 3-2i)", num(3), 2), gives("num", "(im 3-2i)", num(-2), 2), gives("num", "(mul 0 -1)", num(0), 3),
		gives("num", "(add 1048575 1)", num(1048576), 3), endsWith("num", "(add 1048576 1)", api.ErrRange, 3), gives("num", "(sub -1048575 1)", num(-1048576), 3), endsWith("num", "(sub -1048576 1)", api.ErrRange, 3), endsWith("num", "(sub 0-1048576i 1i)", api.ErrRange, 3), gives("num", "(mul 1024 1024)", num(1048576), 3), endsWith("num", "(mul 1024 1025)", api.ErrRange, 3), endsWith("num", "(mul 1024 1025i)", api.ErrRange, 3), gives("num", "(neg 1048576)", num(-1048576), 2),

		gives("num", "(eq 1 1)", num(1), 3), gives("num", "(eq 1 1i)", num(0), 3), gives("num", "(eq 1+1i 1)", num(0), 3), gives("num", "(eq 0 (neg 0))", num(1), 4), gives("num", `(eq "" "")`, num(1), 3), gives("num", `(eq "ab" (cat "a" "b"))`, num(1), 5), gives("num", `(eq "ab" "ac")`, num(0), 3), gives("num", `(eq "ab" "a")`, num(0), 3), gives("num", `(eq "a" "ab")`, num(0), 3), gives("num", `(eq (cat "a" "b") (cut "cabd" 1 3))`, num(1), 8),

		gives("num", "(lt 1 2)", num(1), 3), gives("num", "(lt 2 2)", num(0), 3), gives("num", "(lt 2 1)", num(0), 3), gives("num", "(lt 1+5i 2)", num(1), 3), gives("num", "(lt 1 1+1i)", num(1), 3), gives("num", "(lt 1+1i 1)", num(0), 3), gives("num", "(lt -1 0)", num(1), 3),

		gives("num", `(len "")`, num(0), 2), gives("num", `(len "abc")`, num(3), 2), gives("num", "(len (array num))", num(0), 2), gives("num", `(len (array bytes "ab" "c"))`, num(2), 4),

		gives("bytes", `(cat "a" "bc")`, text("abc"), 3), gives("bytes", `(cat "" "bc")`, text("bc"), 3), gives("bytes", `(cat "a" "")`, text("a"), 3), gives("bytes", `(cat "" "")`, text(""), 3), gives("(array num)", "(cat (array num 1) (array num 2 3))", array(num(1), num(2), num(3)), 6), gives("(array num)", "(cat (array num) (array num))", array(), 3), gives("(array T)", "(cat (array T (A)) (array T))", array(variant(0)), 4),

		gives("num", `(at "ab" 0)`, num(97), 3), gives("num", `(at "ab" 1)`, num(98), 3), gives("num", `(at "\xff" 0)`, num(255), 3), endsWith("num", `(at "ab" 2)`, api.ErrIndex, 3), endsWith("num", `(at "ab" -1)`, api.ErrIndex, 3), endsWith("num", `(at "ab" 1i)`, api.ErrIndex, 3), endsWith("num", `(at "ab" 1+1i)`, api.ErrIndex, 3), endsWith("num", `(at "ab" 0+1i)`, api.ErrIndex, 3), endsWith("num", `(at "" 0)`, api.ErrIndex, 3), endsWith("num", `(at "ab" 1048576)`, api.ErrIndex, 3),
		gives("num", "(at (array num 7 8) 1)", num(8), 5), gives("bytes", `(at (array bytes "p" "q") 0)`, text("p"), 5), endsWith("num", "(at (array num 7 8) 2)", api.ErrIndex, 5), endsWith("num", "(at (array num) 0)", api.ErrIndex, 3), endsWith("num", "(at (array num 7) -1)", api.ErrIndex, 4), endsWith("num", "(at (array num 7) 1i)", api.ErrIndex, 4), gives("num", "(call (at (array (fn (num) num) g) 0) 1)", num(2), 9), gives("T", "(at (cat (array T (A)) (array T (B 1 d))) 1)", variant(1, num(1), text("de")), 9),

		gives("bytes", `(cut "abcd" 1 3)`, text("bc"), 4), gives("bytes", `(cut "abcd" 0 4)`, text("abcd"), 4), gives("bytes", `(cut "abcd" 0 0)`, text(""), 4), gives("bytes", `(cut "abcd" 4 4)`, text(""), 4), gives("bytes", `(cut "" 0 0)`, text(""), 4), gives("bytes", `(cut (cat "ab" "cd") 1 3)`, text("bc"), 6), endsWith("bytes", `(cut "abcd" 3 2)`, api.ErrIndex, 4), endsWith("bytes", `(cut "abcd" 0 5)`, api.ErrIndex, 4), endsWith("bytes", `(cut "abcd" 5 5)`, api.ErrIndex, 4), endsWith("bytes", `(cut "abcd" 5 2)`, api.ErrIndex, 4), endsWith("bytes", `(cut "abcd" -1 2)`, api.ErrIndex, 4), endsWith("bytes", `(cut "abcd" 1 -1)`, api.ErrIndex, 4), endsWith("bytes", `(cut "abcd" 1i 2)`, api.ErrIndex, 4), endsWith("bytes", `(cut "abcd" 0 2i)`, api.ErrIndex, 4), endsWith("bytes", `(cut "" 0 1)`, api.ErrIndex, 4),

		endsWith("num", "(add "+wrong+" "+other+")", api.ErrIndex, 4), endsWith("num", "(add "+other+" "+wrong+")", api.ErrRange, 4), endsWith("num", "(lt 1 "+wrong+")", api.ErrIndex, 5), endsWith("num", "(at \"\" "+other+")", api.ErrRange, 5), endsWith("bytes", "(cut \"\" "+other+" "+wrong+")", api.ErrRange, 5), endsWith("num", "(neg "+wrong+")", api.ErrIndex, 4), endsWith("num", "(eq "+other+" "+wrong+")", api.ErrRange, 4), endsWith("num", "(len (cut \"\" 0 "+other+"))", api.ErrRange, 7),
	} {
		s.wantIt(t)
	}
}

// longOnes are bytes and an array of 1024.
const longOnes = `(const b bytes (tenTimes 10 "x")) (fun tenTimes ((n num) (s bytes)) bytes (if n (tenTimes (sub n 1) (cat s s)) s))
	(const l (array num) (tenMore 10 (array num 5))) (fun tenMore ((n num) (s (array num))) (array num) (if n (tenMore (sub n 1) (cat s s)) s))`

// 'Values': what is as long as MaxLength may be, and what is longer not.
func TestMaxLength(t *testing.T) {
	for source, want := range map[string]string{
		`(len (cat b b))`: told(num(2048)), `(len (cat (cat b b) ""))`: told(num(2048)), `(len (cat (cat b b) "x"))`: "44", `(len (cat "x" (cat b b)))`: "44", `(len (cat (cut (cat b b) 0 2047) "y"))`: told(num(2048)), `(at (cat (cut (cat b b) 0 2047) "y") 2047)`: told(num('y')), `(at (cat b b) 2048)`: "45", `(len (cat (cat b b) (cat b b)))`: "44", `(eq (cat b b) (cat "x" (cut (cat b b) 1 2048)))`: told(num(1)),
		`(len (cat l l))`: told(num(2048)), `(len (cat (cat l l) (array num)))`: told(num(2048)), `(len (cat (cat l l) (array num 1)))`: "44", `(len (cat (array num 1) (cat l l)))`: "44", `(at (cat l l) 2047)`: told(num(5)), `(at (cat l l) 2048)`: "45",
	} {
		p := inModule(t, longOnes+"(fun f () num "+source+")")
		a, _ := mean.Run(p.l, p.entry, nil, plenty)
		got := told(a.Value)
		if a.Why != api.OK {
			got = fmt.Sprint(int(a.Why))
		}
		if got != want {
			t.Errorf("%s: %s, want %s", source, got, want)
		}
	}
}

// P12.4: an answer of MaxShown values, and of one more; each place counts, and bytes and closures once.
func TestMaxShown(t *testing.T) {
	full := nums(2047)
	ones := "(fun one ((x num)) num x) (fun f ((x (array num))) "
	for _, c := range []struct {
		of, source string
		ok         bool
	}{
		{"(array num)", "x", true}, {"(array num)", "(cat x (array num 1))", false}, {"(array (array num))", "(array (array num) x)", false}, {"T", "(V x)", false}, {"T", "(W 1 x)", false}, {"(fn (num) num)", "one", true}, {"bytes", "(cut \"abc\" 0 1)", true},
	} {
		p := inModule(t, "(type T (V (array num)) (W num (array num))) "+ones+c.of+" "+c.source+")", full)
		a, _ := mean.Run(p.l, p.entry, p.args, plenty)
		if why := a.Why; c.ok && why != api.OK || !c.ok && why != api.ErrHeap {
			t.Errorf("%s: %v", c.source, why)
		}
		if a.Why != api.OK && told(a.Value) != told(api.Value{}) {
			t.Errorf("%s: %s", c.source, told(a.Value))
		}
	}
	inModule(t, "(fun f ((x (array num))) (array num) x)", full).wantValue(t, full, 1)
	inModule(t, "(fun f ((x (array num))) (array num) (cat x (array num 1)))", full).wantEnd(t, api.ErrHeap, 4)
}

// P12.4: values that stand in one another in many places.
func TestMaxShownShared(t *testing.T) {
	const pairs = "(type T (L) (P T T)) (fun f ((n num)) T (if n (let t (f (sub n 1)) (P t t)) (L)))"
	for n, want := range map[complex128]int{0: 1, 1: 3, 5: 63, 9: 1023, 10: 2047, 11: 0, 12: 0, 200: 0, 900: 0} {
		p := inModule(t, pairs, num(n))
		a, _ := mean.Run(p.l, p.entry, p.args, plenty)
		if want == 0 && a.Why != api.ErrHeap || want > 0 && (a.Why != api.OK || countOf(a.Value) != want) {
			t.Errorf("%v: %v, %d values", n, a.Why, countOf(a.Value))
		}
	}
	const one = "(type T (L) (S T)) (fun f ((n num) (t T)) T (if n (f (sub n 1) (S (S (S t)))) t))"
	for n, want := range map[complex128]int{0: 1, 1: 4, 682: 2047, 683: 0} {
		p := inModule(t, one, num(n), variant(0))
		a, _ := mean.Run(p.l, p.entry, p.args, plenty)
		if want == 0 && a.Why != api.ErrHeap || want > 0 && (a.Why != api.OK || countOf(a.Value) != want) {
			t.Errorf("%v: %v, %d values", n, a.Why, countOf(a.Value))
		}
	}
	deep := variant(0)
	for range 2046 {
		deep = variant(1, deep)
	}
	inModule(t, "(type T (L) (S T)) (fun f ((t T)) T (S t))", deep).wantValue(t, variant(1, deep), 2)
	inModule(t, "(type T (L) (S T)) (fun f ((t T)) T (S (S t)))", deep).wantEnd(t, api.ErrHeap, 3)
}

func countOf(v api.Value) int {
	n := 1
	for _, kid := range v.Kids {
		n += countOf(kid)
	}
	return n
}

// P12.3: arguments come in as they are, of each kind; a -0 as 0.
func TestArguments(t *testing.T) {
	const types = "(type T (A) (B num bytes) (C (array T) (array (fn () num)))) "
	below := complex(negativeZero(), negativeZero())
	for _, c := range []struct {
		of   string
		v    api.Value
		want api.Value
	}{
		{"num", num(3 - 2i), num(3 - 2i)}, {"num", num(below), num(0)}, {"num", num(complex(-3, negativeZero())), num(-3)}, {"bytes", text("\x00a"), text("\x00a")}, {"bytes", api.Value{Kind: api.Bytes}, text("")}, {"bytes", text(strings.Repeat("q", 2048)), text(strings.Repeat("q", 2048))}, {"(array num)", nums(9), nums(9)}, {"(array num)", array(), array()}, {"(array num)", array(num(below)), array(num(0))}, {"(array (array bytes))", array(array(), array(text("a"))), array(array(), array(text("a")))}, {"T", variant(0), variant(0)}, {"T", variant(1, num(1), text("b")), variant(1, num(1), text("b"))}, {"T", variant(2, array(variant(0), variant(2, array(), array())), array()), variant(2, array(variant(0), variant(2, array(), array())), array())}, {"(array (fn () num))", array(), array()},
	} {
		inModule(t, types+"(fun f ((x "+c.of+")) "+c.of+" x)", c.v).wantValue(t, c.want, 1)
	}
	inModule(t, "(fun f ((a num) (b num) (c num) (d num) (e num) (g bytes)) num (add a (sub b (mul c (add d (sub e (len g)))))))", num(1), num(2), num(3), num(4), num(5), text("six")).wantValue(t, num(-15), 12)
	inModule(t, "(fun f ((a num) (a bytes)) bytes a)", num(1), text("last")).wantValue(t, text("last"), 1)
}

func negativeZero() float64 {
	zero := 0.0
	return -zero
}
