package sema_test

import (
	"math/rand"
	"slices"
	"strings"
	"testing"

	"hawser/api"
	"hawser/parse"
	"hawser/sema"
	"hawser/tree"
)

// named is a name, with the source of its type.
type named struct{ name, of string }

// shape is a case or a function: what it takes and gives, as sources of types.
type shape struct {
	name   string
	takes  []string
	result string
}

// chance makes expressions of a type that is wanted, which now and then slip.
type chance struct {
	*rand.Rand
	slips  int // one in so many
	shapes []shape
}

func (c chance) of(l ...string) string { return l[c.Intn(len(l))] }

func (c chance) slip() bool { return c.Intn(c.slips) == 0 }

// cases and funs of sourceM, with the sources of their types.
func shapesOfM() []shape {
	return []shape{
		{"A", nil, "U"}, {"B", []string{"num", "bytes"}, "U"}, {"C", []string{"U", "(array n.T)"}, "U"}, {"Only", nil, "One"}, {"Q", []string{"num"}, "Q"}, {"n.P", []string{"num"}, "n.T"}, {"n.Q", nil, "n.T"}, {"n.R", []string{"n.T", "(array n.V)"}, "n.V"}, {"k.P", nil, "k.T"}, {"k.Q", []string{"num"}, "k.T"},
		{"g", []string{"num", "U"}, "num"}, {"z", nil, "num"}, {"id", []string{"(array U)"}, "(array U)"}, {"n.f", []string{"num"}, "n.T"}, {"n.i", []string{"k.W", "num"}, "num"}, {"n.h", nil, "k.W"},
	}
}

// varsOfM are the names that all expressions see.
func varsOfM() []named {
	return []named{{"one", "num"}, {"two", "bytes"}, {"three", "(fn (num) bytes)"}, {"n.c", "num"}, {"k.c", "bytes"}, {"n.e", "(fn (num) n.T)"}, {"g", "(fn (num U) num)"}, {"z", "(fn () num)"}, {"n.f", "(fn (num) n.T)"}, {"n.h", "(fn () k.W)"},
		{"a", "num"}, {"b", "bytes"}, {"l", "(array num)"}, {"r", "(array bytes)"}, {"u", "U"}, {"t", "n.T"}, {"v", "n.V"}, {"p", "(fn (num) bytes)"}, {"w", "k.W"}, {"ws", "(array k.W)"}, {"s", "n.S"}}
}

// someType is a source of one.
func (c chance) someType(deep int) string {
	if deep > 0 && c.Intn(4) == 0 {
		if c.Intn(2) == 0 {
			return "(array " + c.someType(deep-1) + ")"
		}
		return "(fn (" + strings.Repeat(c.someType(deep-1)+" ", c.Intn(3)) + ") " + c.someType(deep-1) + ")"
	}
	if c.Intn(40) == 0 {
		return c.of("k.W", "q.T", "T", "n.S", "n.Hidden", long(197+c.Intn(4)))
	}
	return c.of("num", "num", "num", "bytes", "bytes", "U", "n.T", "k.T", "One", "n.V")
}

// expr is an expression of that type, where vars are known.
func (c chance) expr(of string, vars []named, deep int) string {
	if c.slip() {
		switch c.Intn(6) {
		case 0:
			return c.of("q", "n.q", "m.one", "(q)", "(Z)", "(n.A 1)", "(one)", "(p 1)", "c")
		case 1:
			return "(" + c.of("add", "neg", "cut", "g", "B", "n.P", "z", "A", "call p", "call z") + strings.Repeat(" "+c.expr(c.someType(1), vars, deep-1), c.Intn(3)) + ")"
		default:
			of = c.someType(1)
		}
	}
	if deep <= 0 || c.Intn(6) == 0 {
		return c.leaf(of, vars)
	}
	switch c.Intn(8) {
	case 0:
		kind := c.someType(1)
		name := c.of("x", "y", "a", "b", "u", "one", "g")
		return "(let " + name + " " + c.expr(kind, vars, deep-1) + " " + c.expr(of, append(slices.Clip(vars), named{name, kind}), deep-1) + ")"
	case 1:
		return "(if " + c.expr("num", vars, deep-1) + " " + c.expr(of, vars, deep-1) + " " + c.expr(of, vars, deep-1) + ")"
	case 2:
		return c.match(of, vars, deep)
	case 3:
		return c.apply(of, vars, deep)
	case 4:
		return "(at (array " + of + " " + c.expr(of, vars, deep-1) + ") " + c.expr("num", vars, deep-1) + ")"
	}
	return c.ofType(of, vars, deep)
}

// leaf is a name of that type, if there is one, else what makes one.
func (c chance) leaf(of string, vars []named) string {
	var names []string
	for k, one := range vars {
		hidden := slices.ContainsFunc(vars[k+1:], func(other named) bool { return other.name == one.name })
		if one.of == of && !hidden {
			names = append(names, one.name)
		}
	}
	if len(names) > 0 && c.Intn(5) > 0 {
		return c.of(names...)
	}
	switch of {
	case "num":
		return c.of("1", "2i", "0")
	case "bytes":
		return c.of(`""`, `"ab"`)
	}
	return c.ofType(of, vars, 0)
}

// ofType is an expression that is made for that type alone.
func (c chance) ofType(of string, vars []named, deep int) string {
	if strings.HasPrefix(of, "(fn ") {
		return c.lambda(of, vars, deep)
	}
	var ways [][]string // what it begins with, and the types of its Kids
	way := func(l ...string) { ways = append(ways, l) }
	switch same := c.of("num", "bytes"); of {
	case "num":
		way(c.of("add", "sub", "mul", "lt"), "num", "num")
		way(c.of("neg", "conj", "re", "im"), "num")
		way("len", c.of("bytes", "(array num)"))
		way("at", "bytes", "num")
		way("eq", same, same)
	case "bytes":
		way("cat", "bytes", "bytes")
		way("cut", "bytes", "num", "num")
	}
	if strings.HasPrefix(of, "(array ") {
		elem := pieces(of)[1]
		ways = append(ways, append([]string{"array " + elem}, slices.Repeat([]string{elem}, c.Intn(3))...))
		if deep > 0 {
			way("cat", of, of)
		}
	}
	for _, one := range c.shapes {
		if one.result == of && (deep > 0 || len(one.takes) == 0) {
			ways = append(ways, append([]string{one.name}, one.takes...))
		}
	}
	if len(ways) == 0 {
		return c.of("a", "b", "(A)", "w")
	}
	one := ways[c.Intn(len(ways))]
	made := "(" + one[0]
	for _, kid := range one[1:] {
		made += " " + c.expr(kid, vars, deep-1)
	}
	return made + ")"
}

// pieces are what stands between the outer brackets of a source.
func pieces(source string) (l []string) {
	deep, from := 0, 1
	for k, sign := range source {
		switch {
		case sign == '(':
			deep++
		case sign == ')':
			deep--
		}
		if deep == 0 || deep == 1 && sign == ' ' {
			l, from = append(l, source[from:k]), k+1
		}
	}
	return slices.DeleteFunc(l, func(s string) bool { return s == "" })
}

// lambda is a function of that type.
func (c chance) lambda(of string, vars []named, deep int) string {
	params, result := "", pieces(of)[2]
	vars = slices.Clip(vars)
	for _, param := range pieces(pieces(of)[1]) {
		name := c.of("x", "y", "a", "b", "z")
		params += "(" + name + " " + param + ")"
		vars = append(vars, named{name, param})
	}
	return "(fn (" + params + ") " + result + " " + c.expr(result, vars, deep-1) + ")"
}

// match is one over a type of the shapes, in any order, now and then with an arm too few, too many, or of another case.
func (c chance) match(of string, vars []named, deep int) string {
	whole := c.of("U", "n.T", "k.T", "One", "Q", "n.V")
	var arms []shape
	for _, one := range c.shapes {
		upper := one.name[strings.IndexByte(one.name, '.')+1]
		if one.result == whole && 'A' <= upper && upper <= 'Z' {
			arms = append(arms, one)
		}
	}
	c.Shuffle(len(arms), func(a, b int) { arms[a], arms[b] = arms[b], arms[a] })
	if c.slip() && len(arms) > 1 {
		arms = arms[1:]
	}
	if c.slip() {
		arms = append(arms, arms[c.Intn(len(arms))])
	}
	if c.slip() {
		arms[c.Intn(len(arms))] = shape{c.of("Z", "Only", "n.P", "k.Q", "A"), []string{"num"}, ""}
	}
	s := "(match " + c.expr(whole, vars, deep-1)
	for _, arm := range arms {
		inner, head := slices.Clip(vars), arm.name
		for _, field := range arm.takes {
			name := c.of("x", "y", "a", "u", "one")
			inner, head = append(inner, named{name, field}), head+" "+name
		}
		if c.slip() {
			head += " x"
		}
		s += " ((" + head + ") " + c.expr(of, inner, deep-1) + ")"
	}
	return s + ")"
}

// apply calls a function that gives that type.
func (c chance) apply(of string, vars []named, deep int) string {
	var params []string
	for range c.Intn(3) {
		params = append(params, c.someType(1))
	}
	s := "(call " + c.expr("(fn ("+strings.Join(params, " ")+") "+of+")", vars, deep-1)
	for _, param := range params {
		s += " " + c.expr(param, vars, deep-1)
	}
	return s + ")"
}

// wantByBrackets: Expr answers of a source what the model does.
func (x setting) wantByBrackets(t testing.TB, source string, l []api.Iface) api.Errno {
	t.Helper()
	brackets, why, _ := tree.Parse(source)
	if why != api.OK {
		return why
	}
	e, why, _ := parse.Expr(brackets, "m")
	if why != api.OK {
		return why
	}
	typed := ""
	want := caught(func() { typed = worldOf(x.m, l, x.consts).with(x.locals...).typed(brackets) })
	if got := x.expr(e); got != told(typed, want.why, want.at) {
		t.Errorf("%s, %d consts: %s, want %s", source, x.consts, got, told(typed, want.why, want.at))
	}
	return want.why
}

// wantEnough: each of these was seen often.
func wantEnough(t *testing.T, seen map[api.Errno]int, whys ...api.Errno) {
	t.Helper()
	for _, why := range whys {
		if seen[why] < 20 {
			t.Errorf("too few are %v: %d", why, seen[why])
		}
	}
}

// P9.1: expressions by chance, that are right but for some slips.
func TestExprByChance(t *testing.T) {
	x := wide(t)
	seen := map[api.Errno]int{}
	for k := range 20000 {
		c := chance{rand.New(rand.NewSource(int64(k))), 10 + 10*(k%20), shapesOfM()}
		x.consts = 3 - c.Intn(5)/4
		seen[x.wantByBrackets(t, c.expr(c.someType(2), varsOfM(), 1+c.Intn(5)), others(t))]++
	}
	wantEnough(t, seen, api.OK, api.ErrName, api.ErrType, api.ErrCount, api.ErrLong, api.ErrTaken, api.ErrCover)
}

// source is a module, of names that meet one another.
func (c chance) source() string {
	vars := []named{{"n.c", "num"}, {"k.c", "bytes"}, {"n.e", "(fn (num) n.T)"}, {"n.f", "(fn (num) n.T)"}, {"n.h", "(fn () k.W)"}}
	items := []string{"(import n T c e f h i V S) (import k c T)", longTypes + "(type U (A) (B num bytes) (C U (array n.T))) (type One (Only)) (type Q (Q num))"}
	funs := []string{"g", "z", "id", "h"}[c.Intn(3):]
	for _, name := range funs {
		one := shape{name: name, result: c.someType(1)}
		for range c.Intn(3) {
			one.takes = append(one.takes, c.someType(1))
		}
		c.shapes = append(c.shapes, one)
		vars = append(vars, named{name, "(fn (" + strings.Join(one.takes, " ") + ") " + one.result + ")"})
	}
	for _, name := range []string{"one", "two", "three"}[c.Intn(3):] {
		of := c.someType(1)
		items = append(items, "(const "+name+" "+of+" "+c.expr(of, vars, c.Intn(4))+")")
		vars = append(vars, named{name, of})
	}
	for _, one := range c.shapes[len(c.shapes)-len(funs):] {
		inner, params := slices.Clip(vars), ""
		for _, of := range one.takes {
			name := c.of("x", "y", "a", "one", "g")
			inner, params = append(inner, named{name, of}), params+"("+name+" "+of+")"
		}
		items = append(items, "(fun "+one.name+" ("+params+") "+one.result+" "+c.expr(one.result, inner, c.Intn(4))+")")
	}
	if c.slip() {
		items = append(items, c.of("(export q)", "(export U U)", "(const one num 1)", "(import n q)", "(import m g)", "(export U g)"))
	}
	if c.slip() {
		c.Shuffle(len(items), func(a, b int) { items[a], items[b] = items[b], items[a] })
	}
	return "(module m " + strings.Join(items, " ") + ")"
}

// wantModuleByBrackets: Module answers of a source what the model does.
func wantModuleByBrackets(t testing.TB, source string, l []api.Iface) api.Errno {
	t.Helper()
	m, why, _ := parse.Module(source)
	if why != api.OK {
		return why
	}
	want := moduleByBrackets(source, m, l)
	if got := toldModule(sema.Module(m, l)); got != toldModule(want.why, want.at, want.name) {
		t.Errorf("%s: %s, want %s", source, got, toldModule(want.why, want.at, want.name))
	}
	return want.why
}

// P9.2: modules by chance.
func TestModuleByChance(t *testing.T) {
	seen := map[api.Errno]int{}
	for k := range 8000 {
		c := chance{rand.New(rand.NewSource(int64(k))), 20 + 20*(k%20), shapesOfM()[:10]}
		seen[wantModuleByBrackets(t, c.source(), others(t))]++
	}
	wantEnough(t, seen, api.OK, api.ErrName, api.ErrType, api.ErrCount, api.ErrLong, api.ErrTaken, api.ErrCover, api.ErrNone)
}

// R4: one answer, however often it is asked for.
func TestSameAgain(t *testing.T) {
	for k := range 300 {
		c := chance{rand.New(rand.NewSource(int64(k))), 50, shapesOfM()[:10]}
		source := c.source()
		m, why, _ := parse.Module(source)
		if why != api.OK {
			continue
		}
		first := toldModule(sema.Module(m, others(t)))
		for range 10 {
			if again := toldModule(sema.Module(m, others(t))); again != first {
				t.Fatalf("%s: %s, was %s", source, again, first)
			}
		}
	}
}

func FuzzExpr(f *testing.F) {
	for k := range 100 {
		c := chance{rand.New(rand.NewSource(int64(k))), 30, shapesOfM()}
		f.Add(c.expr(c.someType(2), varsOfM(), 3), k%5)
	}
	x := wide(f)
	l := others(f)
	f.Fuzz(func(t *testing.T, source string, consts int) {
		y := x
		y.consts = consts
		y.wantByBrackets(t, source, l)
	})
}

func FuzzModule(f *testing.F) {
	for k := range 100 {
		c := chance{rand.New(rand.NewSource(int64(k))), 50, shapesOfM()[:10]}
		f.Add(c.source())
	}
	f.Add(sourceM)
	l := others(f)
	f.Fuzz(func(t *testing.T, source string) {
		wantModuleByBrackets(t, source, l)
	})
}
