package sema_test

import (
	"fmt"
	"strings"
	"testing"

	"hawser/api"
	"hawser/sema"
)

func toldModule(why api.Errno, place int, name string) string {
	return fmt.Sprintf("%v at %d, %q", why, place, name)
}

func wantModule(t testing.TB, m api.Module, l []api.Iface, why api.Errno, place int, name string) {
	t.Helper()
	if got, want := toldModule(sema.Module(m, l)), toldModule(why, place, name); got != want {
		t.Errorf("%s, want %s", got, want)
	}
}

// wantRight: the module of these items is.
func wantRight(t testing.TB, items string) {
	t.Helper()
	source := "(module m " + items + ")"
	if got := toldModule(sema.Module(parsed(t, source), others(t))); got != toldModule(api.OK, 0, "") {
		t.Errorf("%s: %s", source, got)
	}
}

// wantWrong: the module of these items is refused, at the mark, if there is one, else at 0.
func wantWrong(t testing.TB, items string, why api.Errno, name string) {
	t.Helper()
	source, place := "(module m "+items+")", 0
	if strings.Contains(source, "@") {
		source, place = at(t, source)
	}
	if got, want := toldModule(sema.Module(parsed(t, source), others(t))), toldModule(why, place, name); got != want {
		t.Errorf("%s: %s, want %s", source, got, want)
	}
}

// P9.2: modules that are right.
func TestRightModules(t *testing.T) {
	for _, items := range []string{
		"", "(export)", "(import n)", "(import n T c f) (import k T)", "(type T (A)) (export T)", "(const a num 1) (export a)",
		"(const a num 1) (const b num a) (const c num (add a b))",
		"(const a num (f)) (fun f () num b) (const b num 1)",                   // a function knows all consts
		"(const a (fn () num) f) (fun f () num (call a))",                      // a function by its name alone
		"(fun f ((a num)) num (f a))", "(fun f () num (g)) (fun g () num (f))", // functions know one another, and themselves
		"(fun f ((x num) (x bytes)) bytes x)", "(fun f ((f num)) num f)", "(const a num 1) (fun f ((a bytes)) bytes a)", "(const a num 1) (const b bytes (let a \"\" a))",
		"(fun g () num 1) (fun f () (fn () num) g)", "(fun f () (fn (num) num) (fn ((x num)) num x))",
		"(type T (A) (B num)) (fun f ((t T)) num (match t ((A) 1) ((B x) x)))", "(fun f ((t T)) T (B t)) (type T (B T))",
		"(import n T f c) (fun f ((x n.T)) num (match x ((n.P y) (add y n.c)) ((n.Q) 1))) (const a n.T (n.f 1)) (export f a)",
		"(import n h) (fun f () num (let x (n.h) 1))", // of a type that is not Known
		"(const a (array num) (array num 1 2)) (const b num (at a 0)) (export b a)",
		"(const a (fn () num) (fn () num (f))) (fun f () num 1)",
	} {
		wantRight(t, items)
	}
	for _, l := range [][]api.Iface{nil, {}, others(t)} {
		wantModule(t, parsed(t, "(module m (fun f () num 1) (export f))"), l, api.OK, 0, "")
		wantModule(t, api.Module{Name: "m"}, l, api.OK, 0, "")
	}
}

// P9.2: what scope.New refuses, at 0, with its name.
func TestScopeRefuses(t *testing.T) {
	for items, want := range map[string]wrong{
		"(type T (A)) (type T (B))":            {"T", api.ErrTaken},
		"(type T (A)) (type U (A))":            {"A", api.ErrTaken},
		"(const a num 1) (fun a () num 1)":     {"a", api.ErrTaken},
		"(import n T T)":                       {"n.T", api.ErrTaken},
		"(import m f)":                         {"m", api.ErrName},
		"(import q x)":                         {"q.x", api.ErrNone},
		"(import n x)":                         {"n.x", api.ErrNone},
		"(type T (A n.T))":                     {"n.T", api.ErrType},
		"(const a q.T 1)":                      {"q.T", api.ErrType},
		"(fun f ((x num)) (array k.T) 1)":      {"[k.T]", api.ErrType},
		longTypes + "(const a LONG 1)":         {"a", api.ErrLong},
		longTypes + "(fun f ((x LONG)) num 1)": {"f", api.ErrLong},
	} {
		items = strings.ReplaceAll(items, "LONG", long(api.MaxText))
		wantWrong(t, items, want.why, want.marked)
		wantWrong(t, items+" (export none)", want.why, want.marked)
		wantWrong(t, "(const z num q)"+items+" (export z z) (fun y () num q)", want.why, want.marked)
	}
}

// P9.2: what iface.Of refuses, at 0, with the empty name: behind what scope.New does, ahead of the bodies.
func TestIfaceRefuses(t *testing.T) {
	for _, rest := range []string{"", "(const a num q)", "(fun f () num b)", "(fun f () bytes 1)"} {
		wantWrong(t, "(export x)"+rest, api.ErrNone, "")
		wantWrong(t, "(export A) (type T (A))"+rest, api.ErrNone, "")
		wantWrong(t, "(export f) (import n f)"+strings.ReplaceAll(rest, "fun f", "fun g"), api.ErrNone, "")
		wantWrong(t, "(export T) (const c num 1) (type T (A)) (export c T)"+rest, api.ErrTaken, "")
		wantWrong(t, "(export h h) (fun h () num 1)"+rest, api.ErrTaken, "")
		wantWrong(t, "(export h h x) (fun h () num 1)"+rest, api.ErrTaken, "")
		wantWrong(t, "(export x h h) (fun h () num 1)"+rest, api.ErrNone, "")
		wantWrong(t, "(export x) (import n q)"+rest, api.ErrNone, "n.q")
	}
}

// P9.2: a const knows the ones ahead alone.
func TestLaterConst(t *testing.T) {
	wantWrong(t, "(const a num @b) (const b num 1)", api.ErrName, "a")
	wantWrong(t, "(const a num @a)", api.ErrName, "a")
	wantWrong(t, "(const a num 1) (const b num (add a @c)) (const c num b)", api.ErrName, "b")
	wantWrong(t, "(const a num 1) (const b num a) (const c num (add (add a b) @c))", api.ErrName, "c")
	wantWrong(t, "(const a (fn () num) (fn () num @b)) (const b num 1)", api.ErrName, "a")
	wantWrong(t, "(const b num 1) (const a num (let b b @c)) (const c num b)", api.ErrName, "a")
	wantWrong(t, "(const a num (let x @b x)) (const b num 1)", api.ErrName, "a")
	var items []string
	for k := range api.MaxItems {
		sum := "0"
		for n := range k {
			if k < 12 || n == k-1 {
				sum = fmt.Sprintf("(add %s c%d)", sum, n)
			}
		}
		items = append(items, fmt.Sprintf("(const c%d num %s)", k, sum))
	}
	wantRight(t, strings.Join(items, ""))
	for k := range api.MaxItems {
		for n := k; n < api.MaxItems; n += 5 {
			others := append(append(append([]string{}, items[:k]...), fmt.Sprintf("(const c%d num @c%d)", k, n)), items[k+1:]...)
			wantWrong(t, strings.Join(others, ""), api.ErrName, fmt.Sprint("c", k))
		}
	}
}

// P9.2: bodies that Expr refuses, and those of another type than the one told.
func TestWrongBodies(t *testing.T) {
	wantWrong(t, "(const a num @q)", api.ErrName, "a")
	wantWrong(t, "(const a bytes @1)", api.ErrType, "a")
	wantWrong(t, "(const a num @b) (fun b () num 1)", api.ErrType, "a")
	wantWrong(t, "(fun f () bytes @1)", api.ErrType, "f")
	wantWrong(t, "(fun f () num @f)", api.ErrType, "f")
	wantWrong(t, "(fun f () (fn () num) @f)", api.ErrType, "f")
	wantWrong(t, "(fun f () num @x)", api.ErrName, "f")
	wantWrong(t, "(fun g ((x num)) num x) (fun f () num @x)", api.ErrName, "f")
	wantWrong(t, "(fun f ((x num) (x bytes)) num @x)", api.ErrType, "f")
	wantWrong(t, "(const a num 1) (fun f ((a bytes)) num @a)", api.ErrType, "f")
	wantWrong(t, "(import n T V) (fun f ((x n.T)) n.V @x)", api.ErrType, "f")
	wantWrong(t, "(fun f () num (let x 1 (add x @\"\")))", api.ErrType, "f")
	wantWrong(t, "(fun f () bytes @(let x 1 (let y x y)))", api.ErrType, "f")
	wantWrong(t, "(const a (array num) @(array bytes))", api.ErrType, "a")
	wantWrong(t, "(import n h) (fun f () num @(n.h))", api.ErrType, "f")
	wantWrong(t, "(import n f) (const a num (n.f @\"\"))", api.ErrType, "a")
	for _, w := range wrongs() {
		locals := "(a num) (b bytes) (l (array num)) (u U) (p (fn (num) bytes))"
		items := "(const one num 1)" + longTypes + "(type U (A) (B num bytes) (C num U)) (type One (Only)) (fun g ((x num) (u U)) num x)"
		wantWrong(t, items+"(fun f ("+locals+") num "+w.source()+")", w.why, "f")
		wantWrong(t, "(fun f ("+locals+") num (let y "+w.source()+" 1))"+items, w.why, "f")
	}
}

// P9.2, R8: of several definitions that are wrong the first one is told, consts ahead of functions.
func TestFirstDefinition(t *testing.T) {
	wantWrong(t, "(fun f () num q) (const c num @r)", api.ErrName, "c")
	wantWrong(t, "(fun f () num q) (const a num 1) (const c bytes @1) (const d num q)", api.ErrType, "c")
	wantWrong(t, "(fun f () num 1) (fun g () num @q) (fun h () bytes 1)", api.ErrName, "g")
	wantWrong(t, "(fun f () bytes @1) (fun g () num q)", api.ErrType, "f")
	wantWrong(t, "(const a bytes @1) (const b num q)", api.ErrType, "a")
	wantWrong(t, "(const a num 1) (const b bytes (neg @a2)) (const c bytes 1) (fun f () bytes q)", api.ErrName, "b")
	wantWrong(t, "(fun b () bytes @1) (fun a () bytes 1)", api.ErrType, "b") // by place, not by name
}

// The chapter's runs and examples, of Module.
func TestModuleRuns(t *testing.T) {
	wantWrong(t, `(fun f ((x num)) num (add x @"a"))`, api.ErrType, "f")
	wantWrong(t, "(const a num @b) (const b num 1)", api.ErrName, "a")
	wantWrong(t, "(type T (A) (B num)) (fun f ((t T)) num @(match t ((A) 1)))", api.ErrCover, "f")
	wantRight(t, `(const c num 1) (fun f ((c bytes)) bytes (cat c ""))`) // example 1
	wantRight(t, "(fun f () num 1) (const c (fn () num) f)")             // example 2
	wantWrong(t, "(type T (A) (B num)) (fun f ((t T)) num @(match t ((A) 1) ((A) 2)))", api.ErrTaken, "f")
}
