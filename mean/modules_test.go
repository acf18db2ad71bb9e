package mean_test

import (
	"slices"
	"testing"

	"hawser/api"
	"hawser/mean"
)

// inEveryOrder calls f with the modules in all orders.
func inEveryOrder(l []api.Module, f func(l []api.Module)) {
	if len(l) == 0 {
		f(nil)
	}
	for k := range l {
		rest := slices.Delete(slices.Clone(l), k, k+1)
		inEveryOrder(rest, func(others []api.Module) { f(append([]api.Module{l[k]}, others...)) })
	}
}

// wantInEveryOrder: Run answers this, however the modules are handed in.
func wantInEveryOrder(t *testing.T, sources []string, entry string, args []api.Value, want string) {
	t.Helper()
	inEveryOrder(readAll(t, sources...), func(l []api.Module) {
		if got := (program{l, entry, args, plenty}).run(); got != want {
			t.Errorf("%s, %q first: %s, want %s", entry, l[0].Name, got, want)
		}
	})
}

func ok(v api.Value, begun int) string { return toldAnswer(api.Answer{Value: v}, begun) }

func no(why api.Errno, begun int) string { return toldAnswer(api.Answer{Why: why}, begun) }

// P12.3: the consts of all modules, those of what is imported ahead, else by their names, each in its place; also of modules that nobody asks for.
func TestConstsInOrder(t *testing.T) {
	const (
		f      = "(module f (export f) (fun f () num 1))"
		rangeA = "(module a (export x) (const x num (add 1048576 1)))"
		indexB = `(module b (export y) (const y num (at "" 0)))`
		needsB = "(module a (import b y) (const x num (add 1048576 b.y)))"
		both   = `(module g (export x) (const x num 1) (const y num (add x 1)) (const z num (at "" y)) (const w num (add 1048576 1)))`
	)
	wantInEveryOrder(t, []string{f, rangeA, indexB}, "f.f", nil, no(api.ErrRange, 3))
	wantInEveryOrder(t, []string{f, needsB, indexB}, "f.f", nil, no(api.ErrIndex, 3))
	wantInEveryOrder(t, []string{f, both, "(module e (const x num 5))"}, "f.f", nil, no(api.ErrIndex, 8))
	wantInEveryOrder(t, []string{f, "(module z (const x num (add 1 1)))", "(module b (const x num 7))"}, "f.f", nil, ok(num(1), 5))
}

// P12.3: consts, functions, closures and variants of several modules, in whose bodies names mean what they mean there.
func TestSeveralModules(t *testing.T) {
	sources := []string{
		"(module n (export T c add1 make use twice) (type T (Q) (P num)) (const c num 10) (const k num 3) (fun add1 ((x num)) num (add x k)) (fun make ((k num)) (fn (num) num) (fn ((x num)) num (add (mul x k) c))) (fun use ((t T)) num (match t ((P x) x) ((Q) -1))) (fun twice ((p (fn (num) num)) (x num)) num (call p (call p x))))",
		"(module m (import n T c add1 make use twice) (export f g h i j) (type T (P num) (Q)) (const c num 5) (const k num 7) (const made (fn (num) num) (n.make 2)) (fun f ((x num)) num (n.twice (fn ((y num)) num (add (add y x) k)) c)) (fun g () (array n.T) (array n.T (n.P 1) (n.Q))) (fun h ((t T)) n.T (match t ((P x) (n.P (add x n.c))) ((Q) (n.Q)))) (fun i ((x num)) num (call made (n.twice n.add1 x))) (fun j ((t n.T)) num (n.use (match t ((n.Q) (n.P 100)) ((n.P y) (if y (n.Q) (n.P 200)))))))",
	}
	const begun = 2 + 2 + 3 // by the consts of n and m
	wantInEveryOrder(t, sources, "m.f", []api.Value{num(1)}, ok(num(5+8+8), begun+18))
	wantInEveryOrder(t, sources, "m.g", nil, ok(array(variant(1, num(1)), variant(0)), begun+4))
	wantInEveryOrder(t, sources, "m.h", []api.Value{variant(0, num(2))}, ok(variant(1, num(12)), begun+6))
	wantInEveryOrder(t, sources, "m.h", []api.Value{variant(1)}, ok(variant(0), begun+3))
	wantInEveryOrder(t, sources, "m.i", []api.Value{num(1)}, ok(num(24), begun+21))
	wantInEveryOrder(t, sources, "m.j", []api.Value{variant(0)}, ok(num(100), begun+8))
	wantInEveryOrder(t, sources, "m.j", []api.Value{variant(1, num(0))}, ok(num(200), begun+10))
	wantInEveryOrder(t, sources, "m.j", []api.Value{variant(1, num(5))}, ok(num(-1), begun+9))
	wantInEveryOrder(t, sources, "n.make", []api.Value{num(1)}, ok(closure(), begun+1))
}

// P12.3: a chain of modules, each of which knows the one ahead alone.
func TestChainOfModules(t *testing.T) {
	sources := []string{
		"(module d (export T one x) (type T (A T) (B)) (fun one ((t T)) T (A t)) (const x T (B)))",
		"(module c (import d T one x) (export two y) (fun two ((t d.T)) d.T (d.one (d.one t))) (const y d.T (two d.x)))",
		"(module b (import c two y) (import d T) (export four z) (fun four ((t d.T)) d.T (c.two (c.two t))) (const z d.T (four c.y)))",
		"(module a (import b four z) (import d T) (export f) (fun f () d.T (b.four b.z)))",
	}
	want := variant(1)
	for range 10 {
		want = variant(0, want)
	}
	const two = 3 + 2*2    // in the body of two, with what it calls
	const four = 3 + 2*two // in that of four
	wantInEveryOrder(t, sources, "a.f", nil, ok(want, 1+(2+two)+(2+four)+(2+four)))
}

// P12.3: programs as they are written.
func TestPrograms(t *testing.T) {
	const lists = `(type List (End) (More num List))
		(fun from ((n num)) List (if n (More n (from (sub n 1))) (End)))
		(fun fold ((l List) (x num) (p (fn (num num) num))) num (match l ((End) x) ((More y rest) (fold rest (call p x y) p))))
		(fun map ((l List) (p (fn (num) num))) List (match l ((End) (End)) ((More x rest) (More (call p x) (map rest p)))))
		(fun f ((n num)) num (let square (fn ((x num)) num (mul x x)) (fold (map (from n) square) 0 (fn ((x num) (y num)) num (add x y)))))`
	for n, want := range map[complex128]complex128{0: 0, 1: 1, 5: 55, 20: 2870, 100: 338350} {
		p := inModule(t, lists, num(n))
		if a, _ := mean.Run(p.l, p.entry, p.args, plenty); told(a.Value) != told(num(want)) {
			t.Errorf("%v: %v %s", n, a.Why, told(a.Value))
		}
	}
	const reverse = `(fun f ((s bytes)) bytes (g s (len s))) (fun g ((s bytes) (n num)) bytes (if n (cat (cut s (sub n 1) n) (g s (sub n 1))) ""))`
	p := inModule(t, reverse, text("hawser\x00"))
	if a, _ := mean.Run(p.l, p.entry, p.args, plenty); told(a.Value) != told(text("\x00reswah")) {
		t.Error(told(a.Value))
	}
	const fibonacci = `(fun f ((n num)) (array num) (g n (array num 0 1))) (fun g ((n num) (l (array num))) (array num) (if n (g (sub n 1) (cat l (array num (add (at l (sub (len l) 1)) (at l (sub (len l) 2)))))) l))`
	p = inModule(t, fibonacci, num(6))
	if a, _ := mean.Run(p.l, p.entry, p.args, plenty); told(a.Value) != told(array(num(0), num(1), num(1), num(2), num(3), num(5), num(8), num(13))) {
		t.Error(told(a.Value))
	}
	p.args = []api.Value{num(100)}
	if a, _ := mean.Run(p.l, p.entry, p.args, plenty); a.Why != api.ErrRange {
		t.Error(a)
	}
	const church = `(fun f ((n num) (m num)) num (call (call (times (of n) (of m)) (fn ((x num)) num (add x 1))) 0))
		(fun of ((n num)) (fn ((fn (num) num)) (fn (num) num)) (fn ((p (fn (num) num))) (fn (num) num) (fn ((x num)) num (if n (call p (call (call (of (sub n 1)) p) x)) x))))
		(fun times ((a (fn ((fn (num) num)) (fn (num) num))) (b (fn ((fn (num) num)) (fn (num) num)))) (fn ((fn (num) num)) (fn (num) num)) (fn ((p (fn (num) num))) (fn (num) num) (call a (call b p))))`
	p = inModule(t, church, num(6), num(7))
	if a, _ := mean.Run(p.l, p.entry, p.args, plenty); told(a.Value) != told(num(42)) {
		t.Error(a)
	}
}
