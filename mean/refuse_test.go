package mean_test

import (
	"fmt"
	"strings"
	"testing"

	"hawser/api"
	"hawser/mean"
)

const (
	sourceA = "(module a (export g c T mk p) (type T (P num) (R T bytes)) (type H (I)) (const c num (mul 3 3)) (const hidden num 1) (fun g ((t T)) num (match t ((P x) (add x c)) ((R y z) (len z)))) (fun mk ((x num)) T (P x)) (fun p ((q H)) num 5) (fun own ((x num)) num x))"
	sourceB = "(module b (import a g c T mk) (export f h d) (const d num (add a.c 1)) (fun f ((x num)) num (a.g (a.P (add x d)))) (fun h ((q a.T)) num (match q ((a.P y) y) ((a.R t s) (h t)))))"
	ringX   = "(module x (import y g) (export f) (fun f ((n num)) num (y.g n)))"
	ringY   = "(module y (import x f) (export g) (fun g ((n num)) num (x.f n)))"
	wrongW  = "(module w (export f) (fun f () num nothing))"
)

// wantWhy: Run refuses, with nothing begun.
func wantWhy(t *testing.T, what string, l []api.Module, entry string, args []api.Value, why api.Errno) {
	t.Helper()
	for _, fuel := range []int{0, 1, plenty} {
		if got, want := toldAnswer(mean.Run(l, entry, args, fuel)), toldAnswer(api.Answer{Why: why}, 0); got != want {
			t.Errorf("%s, fuel %d: %s, want %s", what, fuel, got, want)
		}
	}
}

// P12.3: modules that are refused, whichever of them is run.
func TestRefusesModules(t *testing.T) {
	for what, l := range map[string][]api.Module{
		"two of one name":        readAll(t, sourceA, sourceB, sourceA),
		"two empty ones":         readAll(t, "(module q)", sourceA, "(module q)"),
		"no such module":         readAll(t, sourceA, "(module q (import z f))"),
		"not exported":           readAll(t, sourceA, "(module q (import a own))"),
		"a type, not exported":   readAll(t, sourceA, "(module q (import a H))"),
		"imports itself":         readAll(t, sourceA, "(module q (import q f) (export f) (fun f () num 1))"),
		"exports nothing":        readAll(t, sourceA, "(module q (export f))"),
		"exports twice":          readAll(t, sourceA, "(module q (export f f) (fun f () num 1))"),
		"no such name":           readAll(t, wrongW, sourceA),
		"another type":           readAll(t, sourceA, "(module q (const c bytes 1))"),
		"a const ahead":          readAll(t, sourceA, "(module q (const c num d) (const d num 1))"),
		"an arm that lacks":      readAll(t, sourceA, "(module q (import a T) (fun f ((t a.T)) num (match t ((a.P x) x))))"),
		"another's type":         readAll(t, sourceA, "(module q (import a g) (fun f () num (a.g 1)))"),
		"two definitions":        readAll(t, sourceA, "(module q (fun f () num 1) (fun f () num 1))"),
		"a body without a kind":  append(readAll(t, sourceA), api.Module{Name: "q", Funs: []api.FunDef{{Name: "f", Type: "num"}}}),
		"a module without name":  append(readAll(t, sourceA), api.Module{}),
		"a const without a kind": append(readAll(t, sourceA), api.Module{Name: "q", Consts: []api.ConstDef{{Name: "c", Type: "num"}}}),
	} {
		wantWhy(t, what, l, "a.mk", []api.Value{num(1)}, api.ErrArg)
	}
}

// P12.3: rings of imports, each of which is right by itself.
func TestRefusesRings(t *testing.T) {
	one := []api.Value{num(1)}
	wantWhy(t, "two", readAll(t, ringX, ringY), "x.f", one, api.ErrCycle)
	wantWhy(t, "two and others", readAll(t, sourceB, ringX, sourceA, ringY), "a.mk", one, api.ErrCycle)
	three := []string{"(module k (import l f) (export f) (fun f () num 1))", "(module l (import m f) (export f) (fun f () num 1))", "(module m (import k f) (export f) (fun f () num 1))"}
	wantWhy(t, "three", readAll(t, three...), "k.f", nil, api.ErrCycle)
	p := program{readAll(t, three[0], three[1], "(module m (export f) (fun f () num 1))"), "k.f", nil, plenty}
	p.wantValue(t, num(1), 1)
}

// P12.3: entries that are no function that a module exports.
func TestRefusesEntries(t *testing.T) {
	l := readAll(t, sourceB, sourceA)
	for _, entry := range []string{"", ".", "a", "a.", ".g", "g", "a.c", "b.d", "a.T", "a.P", "a.own", "a.hidden", "b.g", "b.a.g", "a.g.", "a.g.x", "a .g", "A.g", "c.g", "a.nothing", " a.g", "a.g ", "a..g"} {
		wantWhy(t, fmt.Sprintf("%q", entry), l, entry, []api.Value{num(1)}, api.ErrNone)
		wantWhy(t, fmt.Sprintf("%q of none", entry), nil, entry, []api.Value{num(1)}, api.ErrNone)
	}
}

// P12.3: arguments that do not fit, one by one and in their number.
func TestRefusesArguments(t *testing.T) {
	l := readAll(t, sourceB, sourceA, "(module q (import a T) (export f n s) (fun f ((x num) (y bytes) (t (array a.T))) num 1) (fun n () num 1) (fun s ((p (fn () num))) num 1))")
	right := []api.Value{num(1), text("y"), array(variant(0, num(1)))}
	program{l, "q.f", right, plenty}.wantValue(t, num(1), 8)
	for what, args := range map[string][]api.Value{
		"none": nil, "too few": right[:2], "too many": append(right[:3:3], num(1)),
		"not right": {num(0.5), right[1], right[2]}, "another kind": {text("x"), right[1], right[2]}, "too long": {num(1), text(strings.Repeat("x", 2049)), right[2]}, "a closure": {num(1), text(""), closure()}, "closures": {num(1), text(""), array(closure())}, "no such case": {num(1), text(""), array(variant(2))}, "a field too many": {num(1), text(""), array(variant(0, num(1), num(2)))}, "a field of another type": {num(1), text(""), array(variant(0, text("")))}, "a number in bytes": {num(1), api.Value{Kind: api.Bytes, N: 1}, right[2]}, "a case in a number": {api.Value{Kind: api.Num, Case: 1}, right[1], right[2]}, "bytes in a number": {api.Value{Kind: api.Num, B: []byte("x")}, right[1], right[2]}, "nothing": {{}, {}, {}}, "too many values": {num(1), text(""), repeated(variant(0, num(1)), 1024)}, "the wrong way round": {right[2], right[1], right[0]},
	} {
		wantWhy(t, what, l, "q.f", args, api.ErrArg)
	}
	wantWhy(t, "one for none", l, "q.n", []api.Value{num(1)}, api.ErrArg)
	wantWhy(t, "a closure for a function", l, "q.s", []api.Value{closure()}, api.ErrArg)
	program{l, "q.f", []api.Value{num(1), text(""), repeated(variant(0, num(1)), 1023)}, plenty}.wantValue(t, num(1), 8)
}

// P12.3: types fit whether they are exported or not, and whoever has them.
func TestArgumentsOfAllTypes(t *testing.T) {
	l := readAll(t, sourceB, sourceA)
	program{l, "a.p", []api.Value{variant(0)}, plenty}.wantValue(t, num(5), 8)
	program{l, "b.h", []api.Value{variant(1, variant(0, num(8)), text(""))}, plenty}.wantValue(t, num(8), 14)
	wantWhy(t, "no such case", l, "a.p", []api.Value{variant(1)}, api.ErrArg)
}

// P12.3: where two refusals apply, the one that is named first.
func TestOrderOfRefusals(t *testing.T) {
	wrong := []api.Value{{}}
	for _, c := range []struct {
		what  string
		l     []api.Module
		entry string
		want  api.Errno
	}{
		{"one name, a ring", readAll(t, ringX, ringY, ringX), "x.f", api.ErrArg},
		{"a wrong module, a ring", readAll(t, ringX, ringY, wrongW), "x.f", api.ErrArg},
		{"a wrong module, no entry", readAll(t, wrongW), "w.g", api.ErrArg},
		{"a wrong module, wrong arguments", readAll(t, wrongW), "w.f", api.ErrArg},
		{"one name, no entry", readAll(t, sourceA, sourceA), "w.g", api.ErrArg},
		{"a ring, no entry", readAll(t, ringX, ringY), "x.g", api.ErrCycle},
		{"a ring, wrong arguments", readAll(t, ringX, ringY), "x.f", api.ErrCycle},
		{"no entry, wrong arguments", readAll(t, sourceA), "a.own", api.ErrNone},
		{"no modules", nil, "x.f", api.ErrNone},
		{"wrong arguments alone", readAll(t, sourceA), "a.mk", api.ErrArg},
		{"wrong arguments ahead of a const that ends", readAll(t, "(module x (export f) (const c num (add 1048576 1)) (fun f ((n num)) num n))"), "x.f", api.ErrArg},
		{"no entry ahead of a const that ends", readAll(t, "(module x (export f) (const c num (add 1048576 1)) (fun f ((n num)) num n))"), "x.c", api.ErrNone},
	} {
		wantWhy(t, c.what, c.l, c.entry, wrong, c.want)
	}
}
