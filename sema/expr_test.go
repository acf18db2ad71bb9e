package sema_test

import (
	"fmt"
	"strings"
	"testing"

	"hawser/api"
	"hawser/iface"
	"hawser/parse"
	"hawser/scope"
	"hawser/sema"
	"hawser/tree"
)

// others are the interfaces of n and k. Two types of n have a case P, and n.f, n.h and n.S speak of types that m does not import.
func others(t testing.TB) []api.Iface {
	t.Helper()
	cases := func(name string, l ...api.Case) api.Item { return api.Item{Kind: api.Type, Name: name, Cases: l} }
	l := []api.Iface{
		{Module: "n", Items: []api.Item{
			cases("Hidden", caseOf("H")),
			cases("S", caseOf("S", "k.W", "n.Hidden")),
			cases("T", caseOf("P", "num"), caseOf("Q")),
			cases("V", caseOf("P", "num"), caseOf("R", "n.T", "[n.V]")),
			{Kind: api.Const, Name: "c", Type: "num"},
			{Kind: api.Const, Name: "e", Type: "(num)n.T"},
			{Kind: api.Fun, Name: "f", Type: "(num)n.T"},
			{Kind: api.Fun, Name: "h", Type: "()k.W"},
			{Kind: api.Fun, Name: "hidden", Type: "()num"},
			{Kind: api.Fun, Name: "i", Type: "(k.W,num)num"},
		}},
		{Module: "k", Items: []api.Item{cases("T", caseOf("P"), caseOf("Q", "num")), cases("W", caseOf("P")), {Kind: api.Const, Name: "c", Type: "bytes"}}},
	}
	for _, i := range l {
		if why := iface.Right(i); why != api.OK {
			t.Fatalf("%v: %v", i, why)
		}
	}
	return l
}

// The module of most tests.
const sourceM = `(module m (import n T c e f h i V S) (import k c T)
	(type U (A) (B num bytes) (C U (array n.T))) (type One (Only)) (type Q (Q num))
	(const one num 1) (const two bytes "") (const three (fn (num) bytes) 1)
	(fun g ((x num) (u U)) num x) (fun z () num 0) (fun id ((l (array U))) (array U) l) (fun six ((a num) (b num) (c num) (d bytes) (e bytes) (f bytes)) k.T 1))`

func caseOf(name string, fields ...string) api.Case { return api.Case{Name: name, Fields: fields} }

func parsed(t testing.TB, source string) api.Module {
	t.Helper()
	m, why, at := parse.Module(source)
	if why != api.OK {
		t.Fatalf("%s: %v at %d", source, why, at)
	}
	return m
}

func scopeOf(t testing.TB, m api.Module) *scope.Scope {
	t.Helper()
	s, why, name := scope.New(m, others(t))
	if why != api.OK {
		t.Fatalf("%v: %s", why, name)
	}
	return s
}

func read(t testing.TB, source string) api.Expr {
	t.Helper()
	x, why, at := tree.Parse(source)
	if why != api.OK {
		t.Fatalf("%s: %v at %d", source, why, at)
	}
	e, why, at := parse.Expr(x, "m")
	if why != api.OK {
		t.Fatalf("%s: %v at %d", source, why, at)
	}
	return e
}

// at is where the @ of a marked source stands, with the source without it.
func at(t testing.TB, marked string) (string, int) {
	t.Helper()
	place := strings.IndexByte(marked, '@')
	if place < 0 || strings.Count(marked, "@") > 1 {
		t.Fatalf("%s: not marked", marked)
	}
	return marked[:place] + marked[place+1:], place
}

// mine are the locals of most tests.
func mine() []api.Param {
	return []api.Param{{Name: "a", Type: "num"}, {Name: "b", Type: "bytes"}, {Name: "l", Type: "[num]"}, {Name: "r", Type: "[bytes]"}, {Name: "u", Type: "m.U"}, {Name: "t", Type: "n.T"}, {Name: "v", Type: "n.V"}, {Name: "p", Type: "(num)bytes"}, {Name: "w", Type: "k.W"}, {Name: "ws", Type: "[k.W]"}, {Name: "pw", Type: "(k.W)[k.W]"}, {Name: "s", Type: "n.S"}}
}

type setting struct {
	m      api.Module
	s      *scope.Scope
	locals []api.Param
	consts int
}

func here(t testing.TB) setting {
	t.Helper()
	m := parsed(t, sourceM)
	return setting{m, scopeOf(t, m), mine(), len(m.Consts)}
}

func (x setting) with(locals ...api.Param) setting {
	x.locals = append(x.locals[:len(x.locals):len(x.locals)], locals...)
	return x
}

func (x setting) expr(e api.Expr) string {
	typed, why, place := sema.Expr(x.s, x.locals, x.consts, x.m, e)
	return told(typed, why, place)
}

func told(typed string, why api.Errno, place int) string {
	return fmt.Sprintf("%q %v at %d", typed, why, place)
}

func (x setting) wantType(t testing.TB, source, want string) {
	t.Helper()
	if got := x.expr(read(t, source)); got != told(want, api.OK, 0) {
		t.Errorf("%s: %s, want %q", source, got, want)
	}
}

func (x setting) wantTypes(t testing.TB, wants map[string]string) {
	t.Helper()
	for source, want := range wants {
		x.wantType(t, source, want)
	}
}

// wantRefused: the marked expression is the place of the refusal.
func (x setting) wantRefused(t testing.TB, marked string, why api.Errno) {
	t.Helper()
	source, place := at(t, marked)
	if got, want := x.expr(read(t, source)), told("", why, place); got != want {
		t.Errorf("%s: %s, want %s", marked, got, want)
	}
}

func (x setting) wantAllRefused(t testing.TB, wants map[string]api.Errno) {
	t.Helper()
	for marked, why := range wants {
		x.wantRefused(t, marked, why)
	}
}

// P9.1: Number and Text.
func TestLiterals(t *testing.T) {
	here(t).wantTypes(t, map[string]string{"0": "num", "-3": "num", "2i": "num", `""`: "bytes", `"num"`: "bytes", `"a b"`: "bytes"})
}

// P9.1: Vars: locals, own constants and functions, imported ones, and what is none of them.
func TestVar(t *testing.T) {
	here(t).wantTypes(t, map[string]string{
		"a": "num", "b": "bytes", "l": "[num]", "u": "m.U", "t": "n.T", "p": "(num)bytes", "w": "k.W", "ws": "[k.W]",
		"one": "num", "two": "bytes", "three": "(num)bytes", "g": "(num,m.U)num", "z": "()num", "id": "([m.U])[m.U]", "six": "(num,num,num,bytes,bytes,bytes)k.T",
		"n.c": "num", "n.e": "(num)n.T", "n.f": "(num)n.T", "n.h": "()k.W", "n.i": "(k.W,num)num", "k.c": "bytes",
	})
	here(t).wantAllRefused(t, map[string]api.Errno{
		"@q": api.ErrName, "@c": api.ErrName, "@f": api.ErrName, "@m": api.ErrName, "@n": api.ErrName, "@m.one": api.ErrName, "@m.g": api.ErrName, "@n.q": api.ErrName, "@n.hidden": api.ErrName, "@k.f": api.ErrName, "@q.c": api.ErrName, "@n.a": api.ErrName, "@m.a": api.ErrName, "@aa": api.ErrName,
		"@x": api.ErrName, // a parameter of g, but not here
	})
}

// P9.1: the last local of a name counts, ahead of constants and functions, own and imported.
func TestLocalsHide(t *testing.T) {
	x := here(t).with(api.Param{Name: "a", Type: "bytes"}, api.Param{Name: "one", Type: "m.U"}, api.Param{Name: "g", Type: "[num]"}, api.Param{Name: "n.c", Type: "bytes"}, api.Param{Name: "a", Type: "n.T"})
	x.wantTypes(t, map[string]string{"a": "n.T", "one": "m.U", "g": "[num]", "b": "bytes", "two": "bytes", "n.c": "bytes", "(let a 1 a)": "num", "(let b a b)": "n.T", "(len g)": "num"})
	x.wantType(t, "(g 1 u)", "num") // a Call asks the scope alone
	x.wantRefused(t, "(call @g 1 u)", api.ErrType)
	x.consts = 0
	x.wantType(t, "one", "m.U") // a local is known where the constant is not
	x.wantRefused(t, "@two", api.ErrName)
	for _, form := range []string{"(let one %s one)", "(call (fn ((one bytes)) bytes one) %s)", `(match (B 1 %s) ((B x one) one) ((A) b) ((C x y) b))`} {
		here(t).wantType(t, fmt.Sprintf(form, `""`), "bytes")
	}
}

// P9.1: what is hidden is seen again behind the expression that hides it.
func TestHiddenAreSeenAgain(t *testing.T) {
	here(t).wantTypes(t, map[string]string{
		"(let x (let a \"\" a) a)":                                           "num",
		"(if (let a 1 a) a (let b a b))":                                     "num",
		"(add (let b 1 (let b b b)) a)":                                      "num",
		"(cat b (let x (let b 1 b) b))":                                      "bytes",
		"(let f (fn ((a bytes) (b num)) bytes a) (call f b a))":              "bytes",
		"(let x (match u ((B a b) (add a 1)) ((A) a) ((C a b) 1)) a)":        "num",
		"(match u ((A) b) ((B x b) b) ((C b x) (let c b \"\")))":             "bytes",
		"(match u ((C u a) (len a)) ((B b a) b) ((A) a))":                    "num",
		"(let two 1 (add two (let two 2 (let x (let two \"\" two) two))))":   "num",
		"(call (fn ((a bytes) (a num)) num a) b a)":                          "num",   // the last one of a name
		"(match (B 1 b) ((B x x) x) ((A) b) ((C x x) (let y (len x) b)))":    "bytes", // here too
		"(let a (fn ((one bytes)) (fn (num) num) (fn ((b num)) num b)) one)": "num",
	})
	here(t).wantAllRefused(t, map[string]api.Errno{
		"(let x (let y 1 y) @y)":                                   api.ErrName,
		"(let x @x x)":                                             api.ErrName,
		"(add (let x 1 x) @x)":                                     api.ErrName,
		"(cat (call (fn ((x bytes)) bytes x) b) @x)":               api.ErrName,
		"(match u ((B x y) 1) ((A) @x) ((C x y) 1))":               api.ErrName,
		"(add (match u ((B x y) 1) ((A) 1) ((C x y) 1)) @y)":       api.ErrName,
		"(match u ((A) 1) ((B a y) a) ((C x y) (add a (len @x))))": api.ErrType,
		"(call (fn ((a bytes)) num (len a)) @a)":                   api.ErrType,
		"(call (fn ((a num) (a bytes)) num @a) 1 b)":               api.ErrType,
		"(let a b (let b 1 (cat a @b)))":                           api.ErrType,
		"@(if 1 (let a b a) (let b a b))":                          api.ErrType,
	})
}

// P9.1: of m's own constants the first ones alone are known; functions and imported ones always.
func TestConsts(t *testing.T) {
	x := here(t)
	for k, name := range []string{"one", "two", "three"} {
		typed := []string{"num", "bytes", "(num)bytes"}[k]
		for _, form := range []string{"@%s", "(let x 1 @%s)", "(let x @%s x)", "(call (fn () (fn (num) num) @%s))", "(if 1 @%s one)", "(array k.T (k.P) @%s)"} {
			marked := fmt.Sprintf(form, name)
			for x.consts = range k + 1 {
				x.wantRefused(t, marked, api.ErrName)
			}
		}
		for x.consts = k + 1; x.consts < 9; x.consts++ {
			x.wantTypes(t, map[string]string{name: typed, "(let x 1 " + name + ")": typed, "(let x " + name + " x)": typed, "(let x (fn () num (let x " + name + " 1)) 1)": "num"})
		}
	}
	for _, x.consts = range []int{0, 1, 2, 3, -1, -2, -1 << 63} {
		x.wantTypes(t, map[string]string{"g": "(num,m.U)num", "(z)": "num", "n.c": "num", "k.c": "bytes", "n.f": "(num)n.T", "a": "num"})
		x.wantRefused(t, "@nothing", api.ErrName)
		x.wantRefused(t, "@c", api.ErrName)
	}
	for _, x.consts = range []int{-1, -2, -1 << 63} {
		x.wantRefused(t, "@one", api.ErrName)
	}
	for _, x.consts = range []int{3, 4, 1<<63 - 1} {
		x.wantType(t, "three", "(num)bytes")
	}
}
