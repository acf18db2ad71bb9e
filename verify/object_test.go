package verify_test

import (
	"fmt"
	"slices"
	"strings"
	"testing"

	"hawser/api"
	"hawser/object"
)

// rotated is the plain scene with its symbols in another order.
func rotated(by int) object.Object {
	symbols := symbolsOf("(num)num")
	symbols = slices.Concat(symbols[by:], symbols[:by])
	return assembled(funs(fn{name: "f", params: "num", result: "num", text: "load 0; ret"}), symbols)
}

func symbolAt(o object.Object, name string) int {
	return slices.IndexFunc(o.Symbols, func(s object.Symbol) bool { return nameOf(s) == name })
}

// P15.1: ordinary objects.
func TestOrdinaryObjects(t *testing.T) {
	for by := range symbolsOf("") {
		wantObject(t, "the plain scene", rotated(by), ifaces(), api.OK, 0, 0)
	}
	wantObject(t, "an object of nothing", object.Object{Module: "m"}, nil, api.OK, 0, 0)
	wantObject(t, "an object of nothing", object.Object{Module: "m"}, ifaces(), api.OK, 0, 0)
	own := object.Object{
		Module:  "m",
		Types:   []api.Item{typeItem("T", caseOf("A", "m.T", "q.Q"))},
		Texts:   []string{"m.T", "[m.T]", "(m.T)m.T"},
		Globals: []object.Global{{Name: "a", Type: "num", Fun: 1}, {Name: "b", Type: "num", Fun: 0}},
		Funs:    []object.Fun{fn{result: "num", text: "push; ret"}.made(), fn{name: "one", result: "num", text: "push; ret"}.made(), fn{params: "m.T", result: "m.T", text: "load 0; ret"}.made()},
	}
	wantObject(t, "types without symbols", own, nil, api.OK, 0, 0)
}

// symbolHurt turns the symbol of that name.
type symbolHurt struct {
	name string
	turn func(*object.Symbol)
	why  api.Errno
}

func cases(s *object.Symbol, l ...api.Case) { s.Item.Cases = l }

func symbolHurts() []symbolHurt {
	nobodys := func(s *object.Symbol) { s.Module = "nobody" }
	renamed := func(s *object.Symbol) { s.Item.Name += "x" }
	typed := func(of string) func(*object.Symbol) { return func(s *object.Symbol) { s.Item.Type = of } }
	kind := func(k int) func(*object.Symbol) { return func(s *object.Symbol) { s.Item.Kind = k } }
	const none, missing, signature = api.ErrNone, api.ErrMissing, api.ErrSignature
	return []symbolHurt{
		{"n.U", nobodys, none}, {"n.h", nobodys, none}, {"n.e", nobodys, none}, {"k.V", nobodys, none},
		{"n.U", renamed, missing}, {"n.h", renamed, missing}, {"n.e", renamed, missing}, {"k.V", renamed, missing},
		{"n.h", typed("(num)num"), signature}, {"n.h", typed("()n.U"), signature}, {"n.h", kind(api.Const), signature},
		{"n.e", typed("num"), signature}, {"n.e", func(s *object.Symbol) { s.Item = funItem("e", "()n.U") }, signature},
		{"n.U", func(s *object.Symbol) { cases(s, caseOf("P")) }, signature},
		{"n.U", func(s *object.Symbol) { cases(s, caseOf("R", "n.U", "q.Unknown"), caseOf("P")) }, signature},
		{"n.U", func(s *object.Symbol) { cases(s, caseOf("P"), caseOf("S", "n.U", "q.Unknown")) }, signature},
		{"n.U", func(s *object.Symbol) { cases(s, caseOf("P"), caseOf("R", "n.U")) }, signature},
		{"n.U", func(s *object.Symbol) { cases(s, caseOf("P"), caseOf("R", "n.U", "n.U")) }, signature},
		{"n.U", func(s *object.Symbol) { cases(s, caseOf("P"), caseOf("R", "n.U", "q.Unknown"), caseOf("S")) }, signature},
		{"m.T", renamed, missing}, {"m.c", renamed, missing}, {"m.g", renamed, missing}, {"m.k", renamed, missing}, {"m.d", renamed, missing}, {"m.Six", renamed, missing},
		{"m.T", func(s *object.Symbol) { cases(s, caseOf("A"), caseOf("B", "bytes", "num")) }, signature},
		{"m.T", func(s *object.Symbol) { cases(s, caseOf("A"), caseOf("C", "num", "bytes")) }, signature},
		{"m.T", func(s *object.Symbol) { cases(s, caseOf("A")) }, signature},
		{"m.c", typed("num"), signature}, {"m.c", func(s *object.Symbol) { s.Item = funItem("c", "()bytes") }, signature},
		{"m.d", typed("[bytes]"), signature},
		{"m.g", typed("(num)bytes"), signature}, {"m.g", typed("(num,bytes)num"), signature}, {"m.g", kind(api.Const), signature},
		{"m.k", func(s *object.Symbol) { s.Item = constItem("k", "num") }, signature},
	}
}

// P15.1: each refusal of a symbol, at the first and at each later one, with its number.
func TestSymbolRefusals(t *testing.T) {
	for k, h := range symbolHurts() {
		for by := range symbolsOf("") {
			o := rotated(by)
			n := symbolAt(o, h.name)
			h.turn(&o.Symbols[n])
			wantObject(t, fmt.Sprintf("hurt %d of %s", k, h.name), o, ifaces(), h.why, n, 0)
		}
	}
}

// P15.1: of two symbols the first one is told; of one symbol's refusals the one that is named first.
func TestSymbolOrder(t *testing.T) {
	for _, a := range symbolHurts() {
		for _, b := range symbolHurts() {
			for _, by := range []int{0, 7, 15} {
				o := rotated(by)
				first, second := symbolAt(o, a.name), symbolAt(o, b.name)
				if first >= second {
					continue
				}
				a.turn(&o.Symbols[first])
				b.turn(&o.Symbols[second])
				wantObject(t, a.name+", then "+b.name, o, ifaces(), a.why, first, 0)
			}
		}
	}
	o := plain()
	o.Symbols[symbolAt(o, "n.h")] = object.Symbol{Module: "nobody", Item: funItem("nope", "()num")}
	wantObject(t, "all three", o, ifaces(), api.ErrNone, symbolAt(o, "nobody.nope"), 0)
	o.Symbols[symbolAt(o, "nobody.nope")].Module = "n"
	wantObject(t, "the latter two", o, ifaces(), api.ErrMissing, symbolAt(o, "n.nope"), 0)
	o.Symbols[symbolAt(o, "n.nope")].Module = "m"
	wantObject(t, "of the own", o, ifaces(), api.ErrMissing, symbolAt(o, "m.nope"), 0)
}

// P15.1: of the interfaces the first one of a name counts; the own module is not asked for among them.
func TestInterfaces(t *testing.T) {
	o := plain()
	l := ifaces()
	wantObject(t, "none", o, nil, api.ErrNone, 0, 0)
	wantObject(t, "none of n", o, []api.Iface{l[2], l[0]}, api.ErrNone, 0, 0)
	wantObject(t, "none of k", o, l[:2], api.ErrNone, symbolAt(o, "k.V"), 0)
	wantObject(t, "in another order", o, []api.Iface{l[2], l[1], l[0]}, api.OK, 0, 0)
	wantObject(t, "the first one lacks", o, slices.Concat([]api.Iface{{Module: "n"}}, l), api.ErrMissing, 0, 0)
	wantObject(t, "a later one lacks", o, slices.Concat(l, []api.Iface{{Module: "n"}, {Module: "k"}}), api.OK, 0, 0)
	turned := ifaces()[1]
	turned.Items[2].Type = "()n.U"
	wantObject(t, "the first one has another", o, slices.Concat([]api.Iface{turned}, l), api.ErrSignature, symbolAt(o, "n.h"), 0)
	wantObject(t, "a later one has another", o, append(l, turned), api.OK, 0, 0)
	wantObject(t, "one of the own name", o, slices.Concat([]api.Iface{{Module: "m", Items: []api.Item{constItem("c", "num")}}}, l), api.OK, 0, 0)
	o.Symbols[symbolAt(o, "m.k")].Item.Name = "nope"
	wantObject(t, "one of the own name that has it", o, slices.Concat([]api.Iface{{Module: "m", Items: []api.Item{funItem("nope", "()num")}}}, l), api.ErrMissing, symbolAt(o, "m.nope"), 0)
}

// P15.1: a function without a name is let by, whatever its signature is.
func TestUnnamedSymbols(t *testing.T) {
	for n, f := range plain().Funs {
		o := plain()
		o.Symbols = append(o.Symbols, object.Symbol{Module: "m", Item: funItem("", fmt.Sprint(n))})
		switch {
		case f.Name != "":
			wantObject(t, "a number of one with a name", o, ifaces(), api.ErrRef, len(o.Symbols)-1, 0)
		case symbolAt(plain(), fmt.Sprint("#", n)) >= 0:
			wantObject(t, "one that is there", o, ifaces(), api.ErrTaken, len(o.Symbols)-1, 0)
		}
	}
	list := append(funs(fn{name: "f", params: "num", result: "num", text: "load 0; ret"}), fn{taken: "q.Q num", params: "m.Six", result: "m.T", text: "build 0 m.T; ret"})
	o := assembled(list, append(symbolsOf("(num)num"), object.Symbol{Module: "m", Item: funItem("", "8")}))
	wantObject(t, "one more without a name", o, ifaces(), api.OK, 0, 0)
}

var unknowns = []string{"q.Q", "m.Nope", "n.Nope", "n.T", "m.U", "[q.Q]", "(q.Q)num", "()q.Q", "(num,m.T,n.U,[q.Q])m.T", "(m.T)(n.U)[m.Nope]", "[[m.Tt]]", "mm.T", "(q.Unknown)num"}

var knowns = []string{"num", "bytes", "m.T", "m.Six", "n.U", "k.V", "[m.T]", "(k.V,m.One)n.U", "()()()[m.T]"}

// numberOfRefused is n, unless nothing is refused.
func numberOfRefused(n int, why api.Errno) int {
	if why == api.OK {
		return 0
	}
	return n
}

// P15.1: each text, each global's type, each function's signature, at the first and at each later one.
func TestTypeRefusals(t *testing.T) {
	for k := range texts() {
		for _, s := range unknowns {
			o := plain()
			o.Texts[k] = s
			wantObject(t, "a text "+s, o, ifaces(), api.ErrType, k, 0)
		}
		for _, s := range knowns {
			o := object.Object{Module: "m", Types: ownTypes(), Texts: texts(), Symbols: symbolsOf("()num")[:1]}
			o.Symbols = append(o.Symbols, object.Symbol{Module: "k", Item: ifaces()[2].Items[0]})
			o.Texts[k] = s
			wantObject(t, "a text "+s, o, ifaces(), api.OK, 0, 0)
		}
	}
	for k, s := range slices.Concat(knowns, unknowns) {
		why := api.OK
		if k >= len(knowns) {
			why = api.ErrType
		}
		for n := range 3 {
			wantFunction(t, n, fn{params: s, result: s, text: "load 0; ret"}, why)
			wantFunction(t, n, fn{taken: s, result: s, text: "load 0; ret"}, why)
			wantFunction(t, n, fn{params: "num " + s, result: "num", text: "load 0; ret"}, why)
			wantFunction(t, n, fn{taken: s, params: "num", result: "num", text: "load 1; ret"}, api.OK)
		}
	}
}

// wantFunction: of functions with the scene's types alone, number n is let by or refused.
func wantFunction(t *testing.T, n int, f fn, why api.Errno) {
	t.Helper()
	symbols := slices.DeleteFunc(symbolsOf(""), func(s object.Symbol) bool { return s.Item.Kind != api.Type })
	o := assembled(append(slices.Repeat([]fn{{result: "bytes", text: "lit; ret"}}, n), f), symbols)
	o.Globals, o.Exports = nil, nil
	wantObject(t, fmt.Sprintf("%+v", f), o, ifaces(), why, numberOfRefused(n, why), 0)
}

// P15.1: a function that is a global's gives its type, of nothing.
func TestGlobalRefusals(t *testing.T) {
	for k := range plain().Globals {
		for _, c := range []struct {
			of  string
			fun fn
			why api.Errno
		}{
			{"num", fn{result: "num", text: "push; ret"}, api.OK},
			{"m.T", fn{result: "m.T", text: "build 0 m.T; ret"}, api.OK},
			{"()num", fn{result: "()num", text: "close 0 m.k; ret"}, api.OK},
			{"num", fn{name: "named", result: "num", text: "push; ret"}, api.OK},
			{"num", fn{result: "bytes", text: "lit; ret"}, api.ErrType},
			{"num", fn{result: "()num", text: "close 0 m.k; ret"}, api.ErrType},
			{"()num", fn{result: "num", text: "push; ret"}, api.ErrType},
			{"num", fn{params: "num", result: "num", text: "load 0; ret"}, api.ErrType},
			{"num", fn{taken: "num", result: "num", text: "load 0; ret"}, api.ErrType},
			{"(num)num", fn{params: "num", result: "num", text: "load 0; ret"}, api.ErrType},
			{"q.Q", fn{result: "num", text: "push; ret"}, api.ErrType},
			{"q.Q", fn{result: "q.Q", text: "push; ret"}, api.ErrType},
			{"[m.Nope]", fn{result: "[m.Nope]", text: "push; ret"}, api.ErrType},
		} {
			o := assembled(append(funs(fn{name: "f", params: "num", result: "num", text: "load 0; ret"}), c.fun), symbolsOf("(num)num"))
			o.Symbols = slices.Clone(o.Symbols)
			o.Globals[k] = object.Global{Name: o.Globals[k].Name, Type: c.of, Fun: 8}
			for n, s := range o.Symbols {
				if s.Module == "m" && s.Item.Kind == api.Const && s.Item.Name == o.Globals[k].Name {
					o.Symbols[n].Item.Type = c.of
				}
			}
			wantObject(t, fmt.Sprintf("global %d of %s by %+v", k, c.of, c.fun), o, ifaces(), c.why, numberOfRefused(k, c.why), 0)
		}
	}
}

// P15.1: what Fun refuses, with the function's number and the place.
func TestFunRefusals(t *testing.T) {
	for n := range plain().Funs {
		for _, c := range []struct {
			code string
			why  api.Errno
			at   int
		}{
			{"", api.ErrEnd, 0},
			{"\x00", api.ErrForm, 0},
			{"\x01\x02\x00\x00", api.ErrForm, 3},
			{"\x01\x02\x00\x03\x63\x0f", api.ErrRef, 3},
			{"\x01\x02\x00\x0b\x00\x00\x0f", api.ErrRef, 4},
			{"\x0f", api.ErrStack, 0},
		} {
			o := plain()
			o.Funs[n].Code = []byte(c.code)
			o.Relocs = slices.DeleteFunc(o.Relocs, func(r object.Reloc) bool { return r.Fun == n })
			wantObject(t, fmt.Sprintf("function %d: %x", n, c.code), o, ifaces(), c.why, n, c.at)
			for k := n + 1; k < len(o.Funs); k++ {
				o.Funs[k].Code = []byte{1, 2}
				o.Relocs = slices.DeleteFunc(o.Relocs, func(r object.Reloc) bool { return r.Fun == k })
				wantObject(t, fmt.Sprintf("function %d, and a later one", n), o, ifaces(), c.why, n, c.at)
			}
		}
	}
}

// hurt is one thing that is wrong with the plain scene, at its place in the order of refusals.
type hurt struct {
	what  string
	order [2]int // the step, the number
	turn  func(*object.Object)
	why   api.Errno
	at    int
}

// objectHurts are independent of one another.
func objectHurts() []hurt {
	symbol := func(name string, turn func(*object.Symbol), why api.Errno) hurt {
		n := symbolAt(plain(), name)
		return hurt{"symbol " + name, [2]int{1, n}, func(o *object.Object) { turn(&o.Symbols[n]) }, why, 0}
	}
	return []hurt{
		{"Right: a type", [2]int{0, 1}, func(o *object.Object) { o.Types[1].Type = "num" }, api.ErrForm, 0},
		symbol("n.U", func(s *object.Symbol) { s.Item.Name = "Uu" }, api.ErrMissing),
		symbol("m.T", func(s *object.Symbol) { s.Item.Cases = s.Item.Cases[:1] }, api.ErrSignature),
		symbol("m.k", func(s *object.Symbol) { s.Item.Name = "nope" }, api.ErrMissing),
		symbol("n.h", func(s *object.Symbol) { s.Module = "nobody" }, api.ErrNone),
		symbol("k.wide", func(s *object.Symbol) { s.Item.Type = "()m.T" }, api.ErrSignature),
		{"text 0", [2]int{2, 0}, func(o *object.Object) { o.Texts[0] = "q.Q" }, api.ErrType, 0},
		{"text 5", [2]int{2, 5}, func(o *object.Object) { o.Texts[5] = "[q.Q]" }, api.ErrType, 0},
		{"global 1", [2]int{3, 1}, func(o *object.Object) { o.Globals[1].Fun = 0 }, api.ErrType, 0},
		{"global 2", [2]int{3, 2}, func(o *object.Object) { o.Globals[2].Type = "q.Q" }, api.ErrType, 0},
		{"function 2", [2]int{4, 2}, func(o *object.Object) { o.Funs[2].Params[1] = "q.Q" }, api.ErrType, 0},
		{"function 7", [2]int{4, 7}, func(o *object.Object) { o.Funs[7].Result = "q.Q" }, api.ErrType, 0},
		{"code 0", [2]int{5, 0}, func(o *object.Object) { o.Funs[0].Code = []byte{2, 0, 2, 0, 15} }, api.ErrStack, 4},
		{"code 3", [2]int{5, 3}, func(o *object.Object) { o.Funs[3].Code = []byte{3, 1, 0} }, api.ErrForm, 2},
		{"code 6", [2]int{5, 6}, func(o *object.Object) { o.Funs[6].Code = nil }, api.ErrEnd, 0},
	}
}

// P15.1: where two apply, the one that is named first, then the first by its number.
func TestOrderOfObject(t *testing.T) {
	hurts := objectHurts()
	if !slices.IsSortedFunc(hurts, func(a, b hurt) int { return slices.Compare(a.order[:], b.order[:]) }) {
		t.Fatal("the hurts are not in order")
	}
	for k, a := range hurts {
		o := plain()
		a.turn(&o)
		wantObject(t, a.what, o, ifaces(), a.why, a.order[1], a.at)
		for _, b := range hurts[k+1:] {
			o := plain()
			b.turn(&o)
			a.turn(&o)
			wantObject(t, a.what+" and "+b.what, o, ifaces(), a.why, a.order[1], a.at)
		}
	}
	for k := range hurts {
		o := plain()
		for _, h := range hurts[k:] {
			h.turn(&o)
		}
		wantObject(t, "all from "+hurts[k].what+" on", o, ifaces(), hurts[k].why, hurts[k].order[1], hurts[k].at)
	}
}

// P15.1: what object.Right answers, with its number, ahead of all else.
func TestNotRight(t *testing.T) {
	for _, c := range []struct {
		what string
		turn func(*object.Object)
	}{
		{"a module", func(o *object.Object) { o.Module = "M" }},
		{"too many", func(o *object.Object) { o.Texts = slices.Repeat([]string{"num"}, 33) }},
		{"the first type", func(o *object.Object) { o.Types[0].Cases = nil }},
		{"a type", func(o *object.Object) { o.Types[2].Name = "T" }},
		{"the first text", func(o *object.Object) { o.Texts[0] = "" }},
		{"a text", func(o *object.Object) { o.Texts[4] = "[num" }},
		{"the first global", func(o *object.Object) { o.Globals[0].Name = "C" }},
		{"a global", func(o *object.Object) { o.Globals[2].Fun = 99 }},
		{"the first function", func(o *object.Object) { o.Funs[0].Captures = 1 }},
		{"a function", func(o *object.Object) { o.Funs[5].Locals = 25 }},
		{"the first export", func(o *object.Object) { o.Exports[0] = "nope" }},
		{"an export", func(o *object.Object) { o.Exports[1] = "nope" }},
		{"the first symbol", func(o *object.Object) { o.Symbols[0].Item.Kind = 0 }},
		{"a symbol", func(o *object.Object) { o.Symbols[4].Module = "" }},
		{"the first relocation", func(o *object.Object) { o.Relocs[0].Fun = -1 }},
		{"a relocation", func(o *object.Object) { o.Relocs[1].At = 2 }},
		{"a relocation of none", func(o *object.Object) { o.Relocs[2].Sym = 99 }},
	} {
		o := plain()
		for _, h := range objectHurts()[1:] {
			if !strings.HasPrefix(h.what, "code") {
				h.turn(&o)
			}
		}
		c.turn(&o)
		why, n := object.Right(o)
		if why == api.OK {
			t.Errorf("%s: object.Right lets it by", c.what)
		}
		wantObject(t, c.what, o, ifaces(), why, n, 0)
		wantObject(t, c.what, o, nil, why, n, 0)
	}
}
