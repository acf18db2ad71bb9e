package object_test

import (
	"bytes"
	"math"
	"strings"
	"testing"

	"hawser/api"
	"hawser/object"
)

// wrong is an object that Right refuses, or, with OK, one at an edge that it lets by.
type wrong struct {
	what string
	o    object.Object
	why  api.Errno
	n    int
}

// turned is the ordinary object with something otherwise.
func turned(turn func(o *object.Object)) object.Object {
	o := ordinary()
	turn(&o)
	return o
}

// withFun has f in the place of the function at n.
func withFun(n int, f object.Fun) object.Object {
	return turned(func(o *object.Object) { o.Funs[n] = f })
}

func withType(n int, x api.Item) object.Object {
	return turned(func(o *object.Object) { o.Types[n] = x })
}

func withGlobal(n int, g object.Global) object.Object {
	return turned(func(o *object.Object) { o.Globals[n] = g })
}

func withSymbol(n int, s object.Symbol) object.Object {
	return turned(func(o *object.Object) { o.Symbols[n] = s })
}

func withRelocs(l ...object.Reloc) object.Object {
	return turned(func(o *object.Object) { o.Relocs = l })
}

func withExports(l ...string) object.Object {
	return turned(func(o *object.Object) { o.Exports = l })
}

// bare is the ordinary object without exports, so that its names may be otherwise.
func bare(turn func(o *object.Object)) object.Object {
	return turned(func(o *object.Object) {
		o.Exports = nil
		turn(o)
	})
}

// wrongs are all that are refused in the tests of each list.
func wrongs() (all []wrong) {
	for _, c := range [][]wrong{wrongModules(), wrongCounts(), wrongTypes(), wrongTexts(), wrongGlobals(), wrongFuns(), wrongParams(), wrongExports(), wrongSymbols(), wrongUnnamed(), wrongRelocs()} {
		for _, one := range c {
			if one.why != api.OK {
				all = append(all, one)
			}
		}
	}
	return all
}

// wantWrongs: Right answers each, Encode and Decode the same without the number.
func wantWrongs(t *testing.T, l []wrong) {
	t.Helper()
	for _, c := range l {
		wantRight(t, c.what, c.o, c.why, c.n)
		if why, n := rightByFaults(c.o); why != c.why || n != c.n {
			t.Errorf("%s: the model has %v, %d, want %v, %d", c.what, why, n, c.why, c.n)
		}
		if c.why == api.OK {
			wantRound(t, c.what, c.o, bytesByHand(c.o))
			continue
		}
		if b, why := object.Encode(c.o); len(b) != 0 || why != c.why {
			t.Errorf("%s: Encode: %d bytes, %v, want %v", c.what, len(b), why, c.why)
		}
	}
}

func wrongModules() []wrong {
	module := func(s string) object.Object { return object.Object{Module: s} }
	return []wrong{
		{"no module", module(""), api.ErrName, 0},
		{"a Big", module("M"), api.ErrName, 0},
		{"a digit", module("1"), api.ErrName, 0},
		{"a sign", module("a.b"), api.ErrName, 0},
		{"24 bytes", module(longSmall), api.OK, 0},
		{"25 bytes", module(longSmall + "a"), api.ErrName, 0},
		{"_", module("_"), api.OK, 0},
		{"a module ahead of counts", object.Object{Module: "M", Texts: many(33, "num")}, api.ErrName, 0},
		{"a module ahead of lists", turned(func(o *object.Object) { o.Module, o.Texts[2] = "M", "" }), api.ErrName, 0},
	}
}

// P14.1: Module.
func TestRightModule(t *testing.T) { wantWrongs(t, wrongModules()) }

func wrongCounts() []wrong {
	few := full()
	more := func(turn func(o *object.Object)) object.Object {
		o := full()
		turn(&o)
		return o
	}
	alone := func(o object.Object) object.Object {
		o.Module = "m"
		return o
	}
	return []wrong{
		{"all that may be", few, api.OK, 0},
		{"33 types", more(func(o *object.Object) { o.Types = append(o.Types, typeItem("Z", caseOf("A"))) }), api.ErrMany, 0},
		{"33 texts", more(func(o *object.Object) { o.Texts = append(o.Texts, "num") }), api.ErrMany, 0},
		{"33 globals", more(func(o *object.Object) {
			o.Globals = append(o.Globals, object.Global{Name: "z", Type: "num"})
		}), api.ErrMany, 0},
		{"33 exports", more(func(o *object.Object) {
			o.Funs[0].Name = "z"
			o.Exports = append(o.Exports, "z")
		}), api.ErrMany, 0},
		{"49 functions", more(func(o *object.Object) { o.Funs = append(o.Funs, plain(0)) }), api.ErrMany, 0},
		{"97 symbols", more(func(o *object.Object) { o.Symbols = append(o.Symbols, unnamed("1")) }), api.ErrMany, 0},
		{"385 relocations", more(func(o *object.Object) {
			o.Funs[47].Code = make([]byte, 386)
			o.Relocs = append(o.Relocs, object.Reloc{Fun: 47, At: 384})
		}), api.ErrMany, 0},
		{"33 types alone", alone(object.Object{Types: make([]api.Item, 33)}), api.ErrMany, 0},
		{"32 types alone", alone(object.Object{Types: make([]api.Item, 32)}), api.ErrForm, 0},
		{"33 texts alone", alone(object.Object{Texts: make([]string, 33)}), api.ErrMany, 0},
		{"32 texts alone", alone(object.Object{Texts: make([]string, 32)}), api.ErrType, 0},
		{"33 globals alone", alone(object.Object{Globals: make([]object.Global, 33)}), api.ErrMany, 0},
		{"32 globals alone", alone(object.Object{Globals: make([]object.Global, 32)}), api.ErrName, 0},
		{"33 exports alone", alone(object.Object{Exports: make([]string, 33)}), api.ErrMany, 0},
		{"32 exports alone", alone(object.Object{Exports: make([]string, 32)}), api.ErrNone, 0},
		{"49 functions alone", alone(object.Object{Funs: make([]object.Fun, 49)}), api.ErrMany, 0},
		{"48 functions alone", alone(object.Object{Funs: make([]object.Fun, 48)}), api.ErrType, 0},
		{"97 symbols alone", alone(object.Object{Symbols: make([]object.Symbol, 97)}), api.ErrMany, 0},
		{"96 symbols alone", alone(object.Object{Symbols: make([]object.Symbol, 96)}), api.ErrName, 0},
		{"385 relocations alone", alone(object.Object{Relocs: make([]object.Reloc, 385)}), api.ErrMany, 0},
		{"384 relocations alone", alone(object.Object{Relocs: make([]object.Reloc, 384)}), api.ErrRef, 0},
		{"far too many", alone(object.Object{Relocs: make([]object.Reloc, 1<<14)}), api.ErrMany, 0},
		{"relocations ahead of a type", turned(func(o *object.Object) {
			o.Types[0].Kind = 9
			o.Relocs = make([]object.Reloc, 385)
		}), api.ErrMany, 0},
	}
}

// P14.1: how many there may be of everything.
func TestRightCounts(t *testing.T) { wantWrongs(t, wrongCounts()) }

func wrongTypes() []wrong {
	a := caseOf("A")
	x := typeItem("T", a)
	with := func(turn func(x *api.Item)) api.Item {
		one := x
		turn(&one)
		return one
	}
	two := func(x api.Item) object.Object {
		return object.Object{Module: "m", Types: []api.Item{typeItem("S", a), x}}
	}
	return []wrong{
		{"a right one", two(x), api.OK, 0},
		{"not in order", two(typeItem("R", a)), api.OK, 0},
		{"no kind", two(with(func(x *api.Item) { x.Kind = 0 })), api.ErrForm, 1},
		{"no kind at the first", withType(0, with(func(x *api.Item) { x.Kind = 4 })), api.ErrForm, 0},
		{"a kind below 0", two(with(func(x *api.Item) { x.Kind = -1 })), api.ErrForm, 1},
		{"a const", two(constItem("c", "num")), api.ErrForm, 1},
		{"a const at the first", withType(0, constItem("c", "num")), api.ErrForm, 0},
		{"a function", two(funItem("f", "()num")), api.ErrForm, 1},
		{"a const that is not right", two(constItem("c", "x")), api.ErrType, 1},
		{"a const without a name", two(constItem("C", "num")), api.ErrName, 1},
		{"a function with cases", two(api.Item{Kind: api.Fun, Name: "f", Type: "num", Cases: []api.Case{a}}), api.ErrForm, 1},
		{"a function of no function's type", two(funItem("f", "num")), api.ErrType, 1},
		{"a function without a name", two(funItem("", "0")), api.ErrName, 1},
		{"no Big", two(typeItem("t", a)), api.ErrName, 1},
		{"no Big at the first", withType(0, typeItem("", a)), api.ErrName, 0},
		{"24 bytes", two(typeItem(longBig, a)), api.OK, 0},
		{"25 bytes", two(typeItem(longBig+"b", a)), api.ErrName, 1},
		{"a Type that has a type", two(with(func(x *api.Item) { x.Type = "num" })), api.ErrForm, 1},
		{"no case", two(typeItem("T")), api.ErrForm, 1},
		{"no case at the first", withType(0, typeItem("Tree")), api.ErrForm, 0},
		{"six cases", two(typeItem("T", a, caseOf("B"), caseOf("C"), caseOf("D"), caseOf("E"), caseOf("F"))), api.OK, 0},
		{"seven cases", two(typeItem("T", a, caseOf("B"), caseOf("C"), caseOf("D"), caseOf("E"), caseOf("F"), caseOf("G"))), api.ErrForm, 1},
		{"a case that is no Big", two(typeItem("T", a, caseOf("b"))), api.ErrName, 1},
		{"a case twice", two(typeItem("T", a, a)), api.ErrName, 1},
		{"four fields", two(typeItem("T", caseOf("A", many(4, "m.T")...))), api.OK, 0},
		{"five fields", two(typeItem("T", caseOf("A", many(5, "m.T")...))), api.ErrCount, 1},
		{"a field that is no type", two(typeItem("T", caseOf("A", "num", "t"))), api.ErrType, 1},
		{"five fields at the first", withType(0, typeItem("Tree", caseOf("A", many(5, "num")...))), api.ErrCount, 0},
		{"a field that is no type at the first", withType(0, typeItem("Tree", caseOf("A", "t"))), api.ErrType, 0},
		{"a name that is had", two(typeItem("S", caseOf("B"))), api.ErrTaken, 1},
		{"a name that is had by a later one", object.Object{Module: "m", Types: []api.Item{typeItem("S", a), x, typeItem("S", a)}}, api.ErrTaken, 2},
		{"one that is had and not right", two(typeItem("S")), api.ErrForm, 1},
		{"the first one counts", object.Object{Module: "m", Types: []api.Item{x, x, {}}}, api.ErrTaken, 1},
		{"a type ahead of a text", turned(func(o *object.Object) { o.Types[1].Cases, o.Texts[0] = nil, "" }), api.ErrForm, 1},
	}
}

// P14.1: each of Types.
func TestRightTypes(t *testing.T) { wantWrongs(t, wrongTypes()) }

func wrongTexts() []wrong {
	texts := func(l ...string) object.Object { return turned(func(o *object.Object) { o.Texts = l }) }
	return []wrong{
		{"no text", texts(), api.OK, 0},
		{"200 bytes", texts("num", longType), api.OK, 0},
		{"201 bytes", texts("num", arrays(97, "m.Typea")), api.ErrType, 1},
		{"none", texts("x", "num"), api.ErrType, 0},
		{"empty", texts("num", "num", ""), api.ErrType, 2},
		{"a name without a module", texts("num", "T"), api.ErrType, 1},
		{"two", texts("num", "[", "]"), api.ErrType, 1},
		{"twice the same", texts("num", "num"), api.OK, 0},
		{"a text ahead of a global", turned(func(o *object.Object) { o.Texts[2], o.Globals[0].Name = "?", "?" }), api.ErrType, 2},
	}
}

// P14.1: each of Texts.
func TestRightTexts(t *testing.T) { wantWrongs(t, wrongTexts()) }

func wrongGlobals() []wrong {
	g := func(name, of string, fun int) object.Object {
		return bare(func(o *object.Object) { o.Globals[1] = object.Global{Name: name, Type: of, Fun: fun} })
	}
	first := func(name, of string, fun int) object.Object {
		return withGlobal(0, object.Global{Name: name, Type: of, Fun: fun})
	}
	return []wrong{
		{"a right one", g("two", "num", 4), api.OK, 0},
		{"the first function", g("two", "num", 0), api.OK, 0},
		{"the function of another one", g("two", "num", 2), api.OK, 0},
		{"a Big", g("Two", "num", 0), api.ErrName, 1},
		{"no name", g("", "num", 0), api.ErrName, 1},
		{"no name at the first", first("", "num", 0), api.ErrName, 0},
		{"24 bytes", g(longSmall, "num", 0), api.OK, 0},
		{"25 bytes", g(longSmall+"a", "num", 0), api.ErrName, 1},
		{"a name that is had", g("one", "num", 0), api.ErrTaken, 1},
		{"no type", g("two", "", 0), api.ErrType, 1},
		{"no type at the first", first("two", "m.t", 0), api.ErrType, 0},
		{"200 bytes of type", g("two", longType, 0), api.OK, 0},
		{"201 bytes of type", g("two", arrays(97, "m.Typea"), 0), api.ErrType, 1},
		{"a function behind the last", g("two", "num", 5), api.ErrRef, 1},
		{"a function behind the last at the first", first("two", "num", 5), api.ErrRef, 0},
		{"a function below 0", g("two", "num", -1), api.ErrRef, 1},
		{"a function far off", g("two", "num", math.MaxInt), api.ErrRef, 1},
		{"a function far below", g("two", "num", math.MinInt), api.ErrRef, 1},
		{"no function at all", object.Object{Module: "m", Globals: []object.Global{{Name: "c", Type: "num"}}}, api.ErrRef, 0},
		{"name ahead of type", g("?", "?", -1), api.ErrName, 1},
		{"taken ahead of type", g("one", "?", -1), api.ErrTaken, 1},
		{"type ahead of function", g("two", "?", -1), api.ErrType, 1},
		{"the first one counts", turned(func(o *object.Object) { o.Globals[0].Fun, o.Globals[1].Name = 9, "?" }), api.ErrRef, 0},
		{"a global ahead of a function", turned(func(o *object.Object) { o.Globals[1].Fun, o.Funs[0].Name = 9, "?" }), api.ErrRef, 1},
	}
}

// P14.1: each of Globals.
func TestRightGlobals(t *testing.T) { wantWrongs(t, wrongGlobals()) }

func wrongFuns() []wrong {
	f := func(f object.Fun) object.Object { return withFun(3, f) }
	big := bytes.Repeat([]byte{1}, 2049)
	return []wrong{
		{"a right one", f(object.Fun{Name: "g", Result: "num"}), api.OK, 0},
		{"no name", f(object.Fun{Result: "num"}), api.OK, 0},
		{"a Big", f(object.Fun{Name: "G", Result: "num"}), api.ErrName, 3},
		{"a sign", f(object.Fun{Name: " ", Result: "num"}), api.ErrName, 3},
		{"a Big at the first", withFun(0, object.Fun{Name: "G", Result: "num"}), api.ErrName, 0},
		{"24 bytes", f(object.Fun{Name: longSmall, Result: "num"}), api.OK, 0},
		{"25 bytes", f(object.Fun{Name: longSmall + "a", Result: "num"}), api.ErrName, 3},
		{"a function's name", f(object.Fun{Name: "f", Result: "num"}), api.ErrTaken, 3},
		{"a later function's name", f(object.Fun{Name: "a", Result: "num"}), api.ErrTaken, 4},
		{"a global's name", f(object.Fun{Name: "one", Result: "num"}), api.ErrTaken, 3},
		{"the last global's name", f(object.Fun{Name: "all", Result: "num"}), api.ErrTaken, 3},
		{"a global's name at the first", bare(func(o *object.Object) { o.Funs[0].Name = "all" }), api.ErrTaken, 0},
		{"no result", f(object.Fun{}), api.ErrType, 3},
		{"no result at the first", withFun(0, object.Fun{Name: "f"}), api.ErrType, 0},
		{"a result that is none", f(object.Fun{Result: "T"}), api.ErrType, 3},
		{"2048 bytes of code", f(object.Fun{Result: "num", Code: big[1:]}), api.OK, 0},
		{"2049 bytes of code", f(object.Fun{Result: "num", Code: big}), api.ErrLong, 3},
		{"2049 bytes of code at the first", withFun(0, object.Fun{Name: "f", Result: "num", Code: big}), api.ErrLong, 0},
		{"name ahead of count", f(object.Fun{Name: "F", Captures: 1, Code: big}), api.ErrName, 3},
		{"taken ahead of count", f(object.Fun{Name: "f", Captures: 1, Code: big}), api.ErrTaken, 3},
		{"count ahead of type", f(object.Fun{Name: "g", Captures: 1, Code: big}), api.ErrCount, 3},
		{"type ahead of code", f(object.Fun{Name: "g", Code: big}), api.ErrType, 3},
		{"the first one counts", turned(func(o *object.Object) { o.Funs[1].Code, o.Funs[2].Name = big, "?" }), api.ErrLong, 1},
		{"a function ahead of an export", turned(func(o *object.Object) { o.Funs[4].Code, o.Exports[0] = big, "?" }), api.ErrLong, 4},
	}
}

// P14.1: each of Funs: names, results, code.
func TestRightFuns(t *testing.T) { wantWrongs(t, wrongFuns()) }

func wrongParams() []wrong {
	f := func(params, captures, locals int) object.Object {
		return withFun(3, object.Fun{Params: many(params, "num"), Captures: captures, Result: "num", Locals: locals})
	}
	with := func(name string, captures int, result string, params ...string) object.Object {
		return withFun(3, object.Fun{Name: name, Params: params, Captures: captures, Result: result, Locals: len(params)})
	}
	return []wrong{
		{"no parameters", f(0, 0, 0), api.OK, 0},
		{"Captures of -1", f(0, -1, 0), api.ErrCount, 3},
		{"Captures of one more than none", f(0, 1, 0), api.ErrCount, 3},
		{"Captures of 0", f(3, 0, 3), api.OK, 0},
		{"Captures of as many", f(3, 3, 3), api.OK, 0},
		{"Captures of one more", f(3, 4, 3), api.ErrCount, 3},
		{"Captures of -1 of three", f(3, -1, 3), api.ErrCount, 3},
		{"Captures far off", f(3, math.MaxInt, 3), api.ErrCount, 3},
		{"Captures far below", f(3, math.MinInt, 3), api.ErrCount, 3},
		{"six behind none", f(6, 0, 6), api.OK, 0},
		{"seven behind none", f(7, 0, 7), api.ErrCount, 3},
		{"six behind one", f(7, 1, 7), api.OK, 0},
		{"seven behind one", f(8, 1, 8), api.ErrCount, 3},
		{"six behind 18", f(24, 18, 24), api.OK, 0},
		{"seven behind 17", f(24, 17, 24), api.ErrCount, 3},
		{"none behind 24", f(24, 24, 24), api.OK, 0},
		{"25 Params", f(25, 25, 25), api.ErrCount, 3},
		{"25 Params of 24 Locals", f(25, 25, 24), api.ErrCount, 3},
		{"30 Params", f(30, 24, 24), api.ErrCount, 3},
		{"31 Params", f(31, 25, 31), api.ErrCount, 3},
		{"Locals of one less", f(3, 0, 2), api.ErrCount, 3},
		{"Locals of none", f(3, 0, 0), api.ErrCount, 3},
		{"Locals below 0", f(0, 0, -1), api.ErrCount, 3},
		{"Locals far below", f(0, 0, math.MinInt), api.ErrCount, 3},
		{"Locals of one more", f(3, 0, 4), api.OK, 0},
		{"24 Locals", f(3, 0, 24), api.OK, 0},
		{"25 Locals", f(3, 0, 25), api.ErrCount, 3},
		{"Locals far off", f(3, 0, math.MaxInt), api.ErrCount, 3},
		{"a name and Captures", with("g", 1, "num", "num"), api.ErrCount, 3},
		{"a name and none", with("g", 0, "num", "num"), api.OK, 0},
		{"Captures at the first", withFun(0, object.Fun{Name: "f", Captures: -1, Result: "num"}), api.ErrCount, 0},
		{"a parameter that is none", with("", 0, "num", "num", "x"), api.ErrType, 3},
		{"a first parameter that is none", with("", 0, "num", "", "num"), api.ErrType, 3},
		{"one that is taken along and none", with("", 1, "num", "x", "num"), api.ErrType, 3},
		{"a function's type split in two", with("", 0, "num", "(num", "num)num"), api.ErrType, 3},
		{"a parameter and nothing as result", with("", 0, "", "num"), api.ErrType, 3},
		{"Sign of 200 bytes", with("", 0, arrays(96, "m.Type")), api.OK, 0},
		{"Sign of 201 bytes", with("", 0, arrays(96, "m.Typea")), api.ErrType, 3},
		{"Sign of 202 bytes", with("", 0, longType), api.ErrType, 3},
		{"a long one that is taken along", with("", 1, arrays(96, "m.Type"), longType), api.OK, 0},
		{"one of 201 bytes that is taken along", with("", 1, "num", arrays(97, "m.Typea")), api.ErrType, 3},
		{"a long one that is not", with("", 0, "num", longType), api.ErrType, 3},
		{"a parameter that makes Sign 200 bytes", with("", 0, "num", arrays(96, "num")), api.OK, 0},
		{"one that makes it 201", with("", 0, "num", arrays(96, "m.Ta")), api.ErrType, 3},
		{"two that make it 200", with("", 1, "num", longType, arrays(40, "num"), arrays(54, "m.T")), api.OK, 0},
		{"two that make it 201", with("", 1, "num", longType, arrays(40, "num"), arrays(54, "m.Ta")), api.ErrType, 3},
	}
}

// P14.1: each of Funs: what it takes, and how much of it.
func TestRightParams(t *testing.T) { wantWrongs(t, wrongParams()) }

func wrongExports() []wrong {
	return []wrong{
		{"none", withExports(), api.OK, 0},
		{"all", withExports("Ab", "Tree", "a", "all", "f", "one"), api.OK, 0},
		{"a type", withExports("Tree"), api.OK, 0},
		{"a global", withExports("all"), api.OK, 0},
		{"a function", withExports("f"), api.OK, 0},
		{"no name", withExports(""), api.ErrNone, 0},
		{"no name behind one", withExports("f", ""), api.ErrNone, 1},
		{"a name that is none", withExports("g"), api.ErrNone, 0},
		{"a later name that is none", withExports("Tree", "a", "g"), api.ErrNone, 2},
		{"a symbol's name", withExports("Q"), api.ErrNone, 0},
		{"the module's name", withExports("m"), api.ErrNone, 0},
		{"a case's name", withExports("Leaf"), api.ErrNone, 0},
		{"a name with its module", withExports("m.f"), api.ErrNone, 0},
		{"the beginning of a name", withExports("al"), api.ErrNone, 0},
		{"twice", withExports("f", "f"), api.ErrTaken, 1},
		{"not in order", withExports("f", "a"), api.ErrTaken, 1},
		{"a later one not in order", withExports("Tree", "f", "all"), api.ErrTaken, 2},
		{"a type behind a value", withExports("a", "Tree"), api.ErrTaken, 1},
		{"none and not in order", withExports("f", "b"), api.ErrNone, 1},
		{"the first one counts", withExports("f", "a", "?"), api.ErrTaken, 1},
		{"an export ahead of a symbol", turned(func(o *object.Object) { o.Exports[3], o.Symbols[0].Module = "Tree", "?" }), api.ErrTaken, 3},
	}
}

// P14.1: each of Exports.
func TestRightExports(t *testing.T) { wantWrongs(t, wrongExports()) }

func wrongSymbols() []wrong {
	s := func(module string, x api.Item) object.Object { return withSymbol(7, symbol(module, x)) }
	c := constItem("c", "num")
	cases := []api.Case{caseOf("A")}
	return []wrong{
		{"a right one", s("q", c), api.OK, 0},
		{"one of its own that it has not", s("m", c), api.OK, 0},
		{"a type", s("q", typeItem("T", cases...)), api.OK, 0},
		{"a function", s("q", funItem("f", "()num")), api.OK, 0},
		{"a Big as module", s("Q", c), api.ErrName, 7},
		{"no module", s("", c), api.ErrName, 7},
		{"no module at the first", withSymbol(0, symbol("", c)), api.ErrName, 0},
		{"24 bytes", s(longSmall, c), api.OK, 0},
		{"25 bytes", s(longSmall+"a", c), api.ErrName, 7},
		{"no kind", s("q", api.Item{Name: "c", Type: "num"}), api.ErrForm, 7},
		{"no kind at the first", withSymbol(0, symbol("q", api.Item{Kind: 4, Name: "c", Type: "num"})), api.ErrForm, 0},
		{"no name", s("q", constItem("", "num")), api.ErrName, 7},
		{"a Big as const", s("q", constItem("C", "num")), api.ErrName, 7},
		{"a Value as type", s("q", typeItem("t", cases...)), api.ErrName, 7},
		{"a type without cases", s("q", typeItem("T")), api.ErrForm, 7},
		{"a type with five fields", s("q", typeItem("T", caseOf("A", many(5, "num")...))), api.ErrCount, 7},
		{"a case that is none", s("q", typeItem("T", caseOf("a"))), api.ErrName, 7},
		{"a field that is none", s("q", typeItem("T", caseOf("A", "t"))), api.ErrType, 7},
		{"a const with cases", s("q", api.Item{Kind: api.Const, Name: "c", Type: "num", Cases: cases}), api.ErrForm, 7},
		{"a const without a type", s("q", constItem("c", "")), api.ErrType, 7},
		{"a function of no function's type", s("q", funItem("f", "num")), api.ErrType, 7},
		{"a function's type of 200 bytes", s("q", funItem("f", longFun)), api.OK, 0},
		{"of 202", s("q", funItem("f", "()"+longType)), api.ErrType, 7},
		{"no name at the first", withSymbol(0, symbol("q", funItem("", "()num"))), api.ErrName, 0},
		{"five fields at the first", withSymbol(0, symbol("q", typeItem("T", caseOf("A", many(5, "num")...)))), api.ErrCount, 0},
		{"no function's type at the first", withSymbol(0, symbol("q", funItem("f", "num"))), api.ErrType, 0},
		{"the same again", s("k", constItem("g", "num")), api.ErrTaken, 7},
		{"the same of another type", s("n", funItem("g", "()num")), api.ErrTaken, 7},
		{"the same type of other cases", s("m", typeItem("Tree", cases...)), api.ErrTaken, 7},
		{"the same of another module", s("k", funItem("h", "(num)n.Q")), api.OK, 0},
		{"the same name of another kind", s("k", funItem("g", "()num")), api.OK, 0},
		{"the same name of another module", s("m", constItem("g", "num")), api.OK, 0},
		{"the same at the second", withSymbol(1, symbol("n", funItem("g", "()num"))), api.ErrTaken, 1},
		{"the same at a later one", withSymbol(4, symbol("k", constItem("g", "bytes"))), api.ErrTaken, 4},
		{"module ahead of item", s("?", api.Item{}), api.ErrName, 7},
		{"item ahead of taken", s("k", constItem("g", "?")), api.ErrType, 7},
		{"the first one counts", turned(func(o *object.Object) { o.Symbols[3], o.Symbols[4].Module = o.Symbols[0], "?" }), api.ErrTaken, 3},
		{"a symbol ahead of a relocation", turned(func(o *object.Object) { o.Symbols[7], o.Relocs[0].Fun = o.Symbols[0], -1 }), api.ErrTaken, 7},
	}
}

// P14.1: each of Symbols.
func TestRightSymbols(t *testing.T) { wantWrongs(t, wrongSymbols()) }

func wrongUnnamed() []wrong {
	s := func(number string) object.Object { return withSymbol(7, unnamed(number)) }
	cases := []api.Case{caseOf("A")}
	ten := func(l ...string) object.Object {
		o := object.Object{Module: "m", Funs: many(12, plain(0))}
		for _, number := range l {
			o.Symbols = append(o.Symbols, unnamed(number))
		}
		return o
	}
	return []wrong{
		{"the third function", s("3"), api.OK, 0},
		{"the same again", s("1"), api.ErrTaken, 7},
		{"the last one that is there already", s("2"), api.ErrTaken, 7},
		{"one that has a name", s("0"), api.ErrRef, 7},
		{"the last, which has a name", s("4"), api.ErrRef, 7},
		{"one behind the last", s("5"), api.ErrRef, 7},
		{"one behind the last at the first", withSymbol(0, unnamed("5")), api.ErrRef, 0},
		{"no number", s(""), api.ErrRef, 7},
		{"a nought ahead", s("03"), api.ErrRef, 7},
		{"two noughts ahead", s("003"), api.ErrRef, 7},
		{"a plus", s("+3"), api.ErrRef, 7},
		{"a minus", s("-3"), api.ErrRef, 7},
		{"a part", s("3.0"), api.ErrRef, 7},
		{"a blank ahead", s(" 3"), api.ErrRef, 7},
		{"a blank behind", s("3 "), api.ErrRef, 7},
		{"another way of writing", s("0x3"), api.ErrRef, 7},
		{"a line in it", s("1_1"), api.ErrRef, 7},
		{"a type", s("()num"), api.ErrRef, 7},
		{"far off", s(strings.Repeat("9", 199)), api.ErrRef, 7},
		{"2^64 and 3 more", s("18446744073709551619"), api.ErrRef, 7},
		{"2^32 and 3 more", s("4294967299"), api.ErrRef, 7},
		{"longer than a type", s(strings.Repeat("0", 201) + "3"), api.ErrRef, 7},
		{"with cases", withSymbol(7, symbol("m", api.Item{Kind: api.Fun, Type: "3", Cases: cases})), api.ErrForm, 7},
		{"with cases and none such", withSymbol(7, symbol("m", api.Item{Kind: api.Fun, Type: "5", Cases: cases})), api.ErrForm, 7},
		{"of another module", withSymbol(7, symbol("n", funItem("", "3"))), api.ErrName, 7},
		{"of no module", withSymbol(7, symbol("", funItem("", "3"))), api.ErrName, 7},
		{"a const", withSymbol(7, symbol("m", constItem("", "3"))), api.ErrName, 7},
		{"a type without a name", withSymbol(7, symbol("m", typeItem("", cases...))), api.ErrName, 7},
		{"of no kind", withSymbol(7, symbol("m", api.Item{Type: "3"})), api.ErrForm, 7},
		{"a number as type of one with a name", withSymbol(7, symbol("m", funItem("h", "3"))), api.ErrType, 7},
		{"ten and eleven", ten("11", "10", "1", "0"), api.OK, 0},
		{"ten again", ten("10", "0", "1", "10"), api.ErrTaken, 3},
		{"twelve", ten("10", "0", "12"), api.ErrRef, 2},
		{"no function at all", object.Object{Module: "m", Symbols: []object.Symbol{unnamed("0")}}, api.ErrRef, 0},
	}
}

// P14.1: symbols of functions without a name.
func TestRightUnnamed(t *testing.T) { wantWrongs(t, wrongUnnamed()) }

func wrongRelocs() []wrong {
	r := func(fun, at, sym int) object.Object {
		return withRelocs(object.Reloc{Fun: 0, At: 1}, object.Reloc{Fun: fun, At: at, Sym: sym})
	}
	first := func(fun, at, sym int) object.Object { return withRelocs(object.Reloc{Fun: fun, At: at, Sym: sym}) }
	return []wrong{
		{"none", withRelocs(), api.OK, 0},
		{"the last two bytes", r(0, 8, 0), api.OK, 0},
		{"one behind", r(0, 9, 0), api.ErrRef, 1},
		{"one behind at the first", first(0, 9, 0), api.ErrRef, 0},
		{"the end of the code", r(0, 10, 0), api.ErrRef, 1},
		{"far behind", r(0, math.MaxInt, 0), api.ErrRef, 1},
		{"below 0", r(1, -1, 0), api.ErrRef, 1},
		{"below 0 at the first", first(0, -1, 0), api.ErrRef, 0},
		{"far below", r(1, math.MinInt, 0), api.ErrRef, 1},
		{"code of two bytes", r(4, 0, 0), api.OK, 0},
		{"behind its first byte", r(4, 1, 0), api.ErrRef, 1},
		{"code of one byte", r(2, 0, 0), api.ErrRef, 1},
		{"no code", r(3, 0, 0), api.ErrRef, 1},
		{"no code, and below 0", r(3, -1, 0), api.ErrRef, 1},
		{"no code, and two below 0", r(3, -2, 0), api.ErrRef, 1},
		{"a function behind the last", r(5, 0, 0), api.ErrRef, 1},
		{"a function behind the last at the first", first(5, 0, 0), api.ErrRef, 0},
		{"a function below 0", r(-1, 0, 0), api.ErrRef, 1},
		{"a function far off", r(math.MaxInt, 0, 0), api.ErrRef, 1},
		{"a function far below", r(math.MinInt, 0, 0), api.ErrRef, 1},
		{"the last symbol", r(0, 2, 7), api.OK, 0},
		{"a symbol behind the last", r(0, 2, 8), api.ErrRef, 1},
		{"a symbol behind the last at the first", first(0, 2, 8), api.ErrRef, 0},
		{"a symbol below 0", r(0, 2, -1), api.ErrRef, 1},
		{"a symbol far off", r(0, 2, math.MaxInt), api.ErrRef, 1},
		{"a symbol far below", r(0, 2, math.MinInt), api.ErrRef, 1},
		{"the same place", r(0, 1, 1), api.ErrForm, 1},
		{"a place ahead", r(0, 0, 7), api.ErrForm, 1},
		{"the next byte", r(0, 2, 0), api.OK, 0},
		{"a lesser place in a later function", withRelocs(object.Reloc{Fun: 0, At: 7}, object.Reloc{Fun: 1, At: 0}), api.OK, 0},
		{"a later place in a function ahead", withRelocs(object.Reloc{Fun: 1, At: 0}, object.Reloc{Fun: 0, At: 7}), api.ErrForm, 1},
		{"the same place in a function ahead", withRelocs(object.Reloc{Fun: 1, At: 0}, object.Reloc{Fun: 0, At: 0}), api.ErrForm, 1},
		{"the same place in a later function", withRelocs(object.Reloc{Fun: 0, At: 0}, object.Reloc{Fun: 1, At: 0}), api.OK, 0},
		{"a later one not above", withRelocs(object.Reloc{Fun: 0, At: 0}, object.Reloc{Fun: 0, At: 4}, object.Reloc{Fun: 0, At: 3}), api.ErrForm, 2},
		{"one behind and not above", withRelocs(object.Reloc{Fun: 1, At: 0}, object.Reloc{Fun: 0, At: 9}), api.ErrRef, 1},
		{"the first one counts", withRelocs(object.Reloc{}, object.Reloc{}, object.Reloc{Fun: -1}), api.ErrForm, 1},
		{"no symbol at all", turned(func(o *object.Object) { o.Symbols = nil }), api.ErrRef, 0},
		{"no function at all", object.Object{Module: "m", Symbols: []object.Symbol{symbol("n", constItem("c", "num"))}, Relocs: []object.Reloc{{}}}, api.ErrRef, 0},
	}
}

// P14.1: each of Relocs.
func TestRightRelocs(t *testing.T) { wantWrongs(t, wrongRelocs()) }

// hurts are ways to hurt the ordinary object, each at one place, in the order in which Right must find them.
func hurts() []func(o *object.Object) {
	return []func(o *object.Object){
		func(o *object.Object) { o.Module = "M" },
		func(o *object.Object) { o.Texts = append(o.Texts, many(33, "num")...) },
		func(o *object.Object) { o.Types[0].Cases[1].Fields[1] = "?" },
		func(o *object.Object) { o.Types[1].Name = "Tree" },
		func(o *object.Object) { o.Texts[1] = "?" },
		func(o *object.Object) { o.Globals[0].Type = "?" },
		func(o *object.Object) { o.Globals[0].Fun = 5 },
		func(o *object.Object) { o.Globals[1].Name = "?" },
		func(o *object.Object) { o.Funs[0].Captures = 1 },
		func(o *object.Object) { o.Funs[0].Result = "?" },
		func(o *object.Object) { o.Funs[1].Code = make([]byte, 2049) },
		func(o *object.Object) { o.Funs[4].Name = "all" },
		func(o *object.Object) { o.Funs[4].Params[0] = "?" },
		func(o *object.Object) { o.Exports[1] = "b" },
		func(o *object.Object) { o.Exports[3] = "Tree" },
		func(o *object.Object) { o.Symbols[0].Module = "?" },
		func(o *object.Object) { o.Symbols[0].Item.Type = "?" },
		func(o *object.Object) { o.Symbols[1].Item.Type = "5" },
		func(o *object.Object) { o.Symbols[6].Item.Type = "1" },
		func(o *object.Object) { o.Relocs[1].Sym = 8 },
		func(o *object.Object) { o.Relocs[2] = object.Reloc{} },
	}
}

// P14.1, R8: of two that apply the first, whatever the other.
func TestRightOrder(t *testing.T) {
	l := hurts()
	for a := range l {
		one := ordinary()
		l[a](&one)
		why, n := object.Right(one)
		if why == api.OK {
			t.Errorf("hurt %d is let by", a)
		}
		for b := a + 1; b < len(l); b++ {
			two := ordinary()
			l[b](&two)
			l[a](&two)
			if gotWhy, got := object.Right(two); gotWhy != why || got != n {
				t.Errorf("hurts %d and %d: %v, %d, want %v, %d", a, b, gotWhy, got, why, n)
			}
			if gotWhy, got := rightByFaults(two); gotWhy != why || got != n {
				t.Errorf("hurts %d and %d: the model has %v, %d, want %v, %d", a, b, gotWhy, got, why, n)
			}
			if _, got := object.Encode(two); got != why {
				t.Errorf("hurts %d and %d: Encode: %v, want %v", a, b, got, why)
			}
			if _, got := object.Iface(two); got != why {
				t.Errorf("hurts %d and %d: Iface: %v, want %v", a, b, got, why)
			}
		}
	}
}

// R1: lists and texts far beyond what may be.
func TestRightEnds(t *testing.T) {
	far := strings.Repeat("[", 1<<20)
	for what, c := range map[string]wrong{
		"module":    {o: object.Object{Module: far}, why: api.ErrName},
		"text":      {o: object.Object{Module: "m", Texts: []string{far}}, why: api.ErrType},
		"export":    {o: object.Object{Module: "m", Exports: []string{far}}, why: api.ErrNone},
		"cases":     {o: object.Object{Module: "m", Types: []api.Item{typeItem("T", many(1<<20, caseOf("A"))...)}}, why: api.ErrForm},
		"fields":    {o: object.Object{Module: "m", Types: []api.Item{typeItem("T", caseOf("A", many(1<<20, "num")...))}}, why: api.ErrCount},
		"params":    {o: object.Object{Module: "m", Funs: []object.Fun{{Params: many(1<<20, far), Result: "num"}}}, why: api.ErrCount},
		"parameter": {o: object.Object{Module: "m", Funs: []object.Fun{{Params: []string{far}, Result: "num", Locals: 1}}}, why: api.ErrType},
		"code":      {o: object.Object{Module: "m", Funs: []object.Fun{{Result: "num", Code: make([]byte, 1<<24)}}}, why: api.ErrLong},
		"number":    {o: object.Object{Module: "m", Symbols: []object.Symbol{unnamed(strings.Repeat("1", 1<<20))}}, why: api.ErrRef},
		"symbol":    {o: object.Object{Module: "m", Symbols: []object.Symbol{symbol(far, funItem(far, far))}}, why: api.ErrName},
	} {
		wantRight(t, what, c.o, c.why, 0)
	}
}
