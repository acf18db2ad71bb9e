package iface_test

import (
	"bytes"
	"fmt"
	"math"
	"slices"
	"strings"
	"testing"

	"hawser/api"
	"hawser/iface"
)

// A name and a type as long as may be.
var (
	longSmall = "a" + strings.Repeat("_", api.MaxName-1)
	longBig   = "A" + strings.Repeat("9", api.MaxName-1)
	longType  = strings.Repeat("[", 98) + "m.Ab" + strings.Repeat("]", 98)
	longFun   = "()" + strings.Repeat("[", 97) + "m.Ab" + strings.Repeat("]", 97)
)

func typeItem(name string, cases ...api.Case) api.Item {
	return api.Item{Kind: api.Type, Name: name, Cases: cases}
}

func caseOf(name string, fields ...string) api.Case { return api.Case{Name: name, Fields: fields} }

func constItem(name, kind string) api.Item {
	return api.Item{Kind: api.Const, Name: name, Type: kind}
}

func funItem(name, kind string) api.Item { return api.Item{Kind: api.Fun, Name: name, Type: kind} }

func with(items ...api.Item) api.Iface { return api.Iface{Module: "m", Items: items} }

// ordinary has all kinds of items, and cases with and without fields.
func ordinary() api.Iface {
	return with(
		typeItem("Ab", caseOf("C"), caseOf("Ab", "num", "[m.Ab]"), caseOf("B", "bytes", "o.T", "(num)num", "num")),
		typeItem("T", caseOf("T")), constItem("_", "num"), constItem("a", "(bytes)o.T"), funItem("b", "()num"), funItem("ba", "(num,m.T)[m.Ab]"), constItem("c", "[bytes]"),
	)
}

func manyConsts(n int) (items []api.Item) {
	for k := range n {
		items = append(items, constItem(fmt.Sprintf("c%05d", k), "num"))
	}
	return items
}

func manyCases(n int) (cases []api.Case) {
	for k := range n {
		cases = append(cases, caseOf(fmt.Sprint("C", k)))
	}
	return cases
}

func manyFields(n int) []string { return slices.Repeat([]string{"num"}, n) }

// rights are interfaces that may be, ordinary ones and at the edges.
func rights() []api.Iface {
	l := []api.Iface{
		ordinary(), with(), {Module: "_"}, {Module: "m", Items: []api.Item{}}, {Module: longSmall}, {Module: "let"},
		with(manyConsts(31)...), with(manyConsts(32)...),
		with(typeItem("T", manyCases(1)...)), with(typeItem("T", manyCases(5)...)), with(typeItem("T", manyCases(6)...)),
		with(typeItem("T", caseOf("A", manyFields(3)...), caseOf("B", manyFields(4)...), caseOf("C", []string{}...))),
		with(typeItem(longBig, caseOf(longBig, longType, longType, longType, longType)), constItem(longSmall, longType), funItem(longSmall[:23]+"a", longFun)),
		with(typeItem("A", caseOf("A")), typeItem("B", caseOf("A"), caseOf("B"))),
		with(typeItem("A0", caseOf("A")), typeItem("AA", caseOf("A")), typeItem("A_", caseOf("A")), typeItem("Aa", caseOf("A")), typeItem("Aaa", caseOf("A")), constItem("_", "num"), constItem("_0", "num"), constItem("a", "num"), constItem("aZ", "num"), constItem("a_", "num"), constItem("aa", "num")),
		with(funItem("let", "()num"), constItem("num", "num")),
		with(funItem("f", "(num,num,num,num,num,num)()num")), with(constItem("f", "()num")),
		{Module: "m", Items: []api.Item{{Kind: api.Const, Name: "c", Type: "num", Cases: []api.Case{}}}},
	}
	var full []api.Item
	for k := range 32 {
		full = append(full, typeItem(fmt.Sprintf("T%02d%s", k, longBig[3:]), caseOf("A", longType, longType, longType, longType), caseOf("B", longType), caseOf("C"), caseOf("D"), caseOf("E", "num"), caseOf(longBig, "num")))
	}
	return append(l, with(full...))
}

// wantWhy: Right answers that; so do Encode and, if the bytes can tell the interface at all, Decode, at 0.
func wantWhy(t *testing.T, i api.Iface, why api.Errno) {
	t.Helper()
	if got := iface.Right(i); got != why {
		t.Errorf("Right(%.200s): %v, want %v", told(i), got, why)
	}
	if model := rightByFaults(i); model != why {
		t.Errorf("the model of Right(%.200s): %v, want %v", told(i), model, why)
	}
	b, got := iface.Encode(i)
	if got != why || why != api.OK && len(b) > 0 {
		t.Errorf("Encode(%.200s): %x, %v, want %v", told(i), b, got, why)
	}
	if why == api.OK {
		wantRound(t, i, b)
	} else if tellable(i) {
		wantRefused(t, bytesByHand(i), why, 0)
	}
}

// wantRound: b are the bytes of i, and Decode reads them as i.
func wantRound(t *testing.T, i api.Iface, b []byte) {
	t.Helper()
	if want := bytesByHand(i); !bytes.Equal(b, want) {
		t.Errorf("Encode(%.200s): %x, want %x", told(i), b, want)
	}
	got, why, at := iface.Decode(b)
	if told(got) != told(i) || why != api.OK || at != 0 {
		t.Errorf("Decode of Encode(%.200s): %.200s, %v at %d", told(i), told(got), why, at)
	}
	var names []string
	for _, x := range i.Items {
		names = append(names, x.Name)
	}
	if l := iface.Breaks(i, got, names); len(l) > 0 {
		t.Errorf("Breaks of %.200s and itself: %q", told(i), l)
	}
}

// tellable: whether the bytes can tell i: nothing of it is too long, and no item has what its Kind leaves out.
func tellable(i api.Iface) bool {
	ok := len(i.Module) <= api.MaxName
	for _, x := range i.Items {
		ok = ok && 0 <= x.Kind && x.Kind <= 65535 && len(x.Name) <= api.MaxName && len(x.Type) <= api.MaxText
		ok = ok && (x.Kind == api.Type && x.Type == "" || x.Kind != api.Type && len(x.Cases) == 0)
		for _, c := range x.Cases {
			ok = ok && len(c.Name) <= api.MaxName && !slices.ContainsFunc(c.Fields, func(s string) bool { return len(s) > api.MaxText })
		}
	}
	return ok
}

func TestRuns(t *testing.T) {
	if b, why := iface.Encode(api.Iface{Module: "m"}); string(b) != "\x01m\x00" || why != api.OK {
		t.Errorf("%x, %v", b, why)
	}
	wantNoIface(t, `(module m (export f))`, api.ErrNone)
	wantBreaks(t, with(constItem("f", "num")), with(constItem("f", "bytes")), []string{"f"}, "f")
}

func TestExamples(t *testing.T) {
	wantWhy(t, with(constItem("b", "num"), constItem("a", "num")), api.ErrName)
	wantNotFound(t, ordinary(), "none")
	wantNotFound(t, with(), "")
	wantBreaks(t, with(), ordinary(), []string{"T", "a"})
}

// P7.1 and P7.5: interfaces that may be; their bytes come back.
func TestRight(t *testing.T) {
	for _, i := range rights() {
		wantWhy(t, i, api.OK)
	}
}

// P7.1: a module's name, alone.
func TestRightModule(t *testing.T) {
	for _, name := range []string{"", "M", "1", "1m", "m.n", "m n", " m", "m\x00", "é", "mé", "\xff", longSmall + "a", longBig, strings.Repeat("a", 1<<16)} {
		wantWhy(t, api.Iface{Module: name}, api.ErrName)
		wantWhy(t, api.Iface{Module: name, Items: ordinary().Items}, api.ErrName)
		wantWhy(t, api.Iface{Module: name, Items: manyConsts(33)}, api.ErrName)
	}
}

// P7.1: too many items, whichever kinds they are of.
func TestRightMany(t *testing.T) {
	for _, n := range []int{33, 34, 64, 1000, 65535} {
		wantWhy(t, with(manyConsts(n)...), api.ErrMany)
	}
	mixed := with()
	for k := range 33 {
		name := fmt.Sprintf("x%02d", k)
		mixed.Items = append(mixed.Items, []api.Item{typeItem("X"+name, caseOf("A")), constItem(name, "num"), funItem(name, "()num")}[k/11])
	}
	wantWhy(t, mixed, api.ErrMany)
	mixed.Items = mixed.Items[:32]
	wantWhy(t, mixed, api.OK)
	wantWhy(t, with(make([]api.Item, 33)...), api.ErrMany)
	wantWhy(t, with(make([]api.Item, 32)...), api.ErrForm)
}

// P7.1: Kinds that are none, whatever else the item has.
func TestRightKind(t *testing.T) {
	for _, kind := range []int{0, 4, 5, -1, -2, 9, 127, 128, 255, 256, 257, 258, 259, 65535, 65536, 65537, 1<<32 + 1, math.MaxInt, math.MinInt, math.MinInt + 1} {
		for _, x := range []api.Item{{}, {Name: "x", Type: "num"}, {Name: "X", Cases: manyCases(1)}, {Name: "f", Type: "()num"}} {
			x.Kind = kind
			wantWhy(t, with(x), api.ErrForm)
			wantWhy(t, with(typeItem("A", caseOf("A")), x), api.ErrForm)
		}
	}
}

// P7.1: names of items and of cases that are none.
func TestRightNames(t *testing.T) {
	neither := []string{"", "1", "1a", "a.b", "A.B", "m.T", "a b", "A B", " a", " A", "a\x00", "A\x00", "é", "É", "aé", "AÉ", "\xff", "(", longSmall + "_", longBig + "9", strings.Repeat("a", 1<<16)}
	for _, name := range slices.Concat(neither, []string{"T", "A", "Z_9", longBig}) {
		wantWhy(t, with(constItem(name, "num")), api.ErrName)
		wantWhy(t, with(funItem(name, "()num")), api.ErrName)
	}
	for _, name := range slices.Concat(neither, []string{"t", "_", "_T", "a", "z", longSmall}) {
		wantWhy(t, with(typeItem(name, caseOf("A"))), api.ErrName)
		wantWhy(t, with(typeItem("T", caseOf(name))), api.ErrName)
		wantWhy(t, with(typeItem("T", caseOf("A"), caseOf("B"), caseOf(name, "num"), caseOf("C"))), api.ErrName)
	}
}

// P7.1: of two names that are neighbours in order of bytes, the one way is right, the other way and each one twice are not.
func TestRightOrder(t *testing.T) {
	of := func(name string) api.Item {
		if name[0] < '_' {
			return typeItem(name, caseOf("A"))
		}
		return constItem(name, "num")
	}
	names := []string{"A", "A0", "A9", "AA", "AZ", "A_", "Aa", "Az", "B", "Z", "_", "_0", "_A", "__", "_a", "a", "a0", "aA", "aZ", "a_", "aa", "aaa", "ab", "z", "zz"}
	for k, name := range names {
		wantWhy(t, with(of(name), of(name)), api.ErrName)
		for _, above := range names[k+1:] {
			wantWhy(t, with(of(name), of(above)), api.OK)
			wantWhy(t, with(of(above), of(name)), api.ErrName)
			wantWhy(t, with(of("A"), of(above), of(name)), api.ErrName)
		}
	}
	wantWhy(t, with(constItem("a", "num"), funItem("a", "()num")), api.ErrName)
	wantWhy(t, with(funItem("a", "()num"), constItem("a", "num")), api.ErrName)
	wantWhy(t, with(constItem("a", "num"), constItem("b", "num"), constItem("a", "num")), api.ErrName)
	wantWhy(t, with(typeItem("A", caseOf("A")), typeItem("C", caseOf("A")), typeItem("B", caseOf("A"))), api.ErrName)
}

// P7.1: what a type has.
func TestRightTypes(t *testing.T) {
	wantWhy(t, with(typeItem("T")), api.ErrForm)
	wantWhy(t, with(typeItem("T", []api.Case{}...)), api.ErrForm)
	for _, n := range []int{7, 8, 100, 65535} {
		wantWhy(t, with(typeItem("T", manyCases(n)...)), api.ErrForm)
	}
	for _, text := range []string{"num", "()num", "x", " "} {
		wantWhy(t, with(api.Item{Kind: api.Type, Name: "T", Type: text, Cases: manyCases(1)}), api.ErrForm)
		wantWhy(t, with(api.Item{Kind: api.Type, Name: "T", Type: text}), api.ErrForm)
	}
	for _, n := range []int{5, 6, 100, 65535} {
		wantWhy(t, with(typeItem("T", caseOf("A", manyFields(n)...))), api.ErrCount)
		wantWhy(t, with(typeItem("T", caseOf("A"), caseOf("B", manyFields(4)...), caseOf("C", manyFields(n)...))), api.ErrCount)
		wantWhy(t, with(typeItem("T", caseOf("A", make([]string, n)...))), api.ErrCount)
	}
	wantWhy(t, with(typeItem("T", caseOf("A"), caseOf("A"))), api.ErrName)
	wantWhy(t, with(typeItem("T", caseOf("A"), caseOf("B"), caseOf("A", "num"))), api.ErrName)
	wantWhy(t, with(typeItem("T", caseOf("A"), caseOf("B"), caseOf("C"), caseOf("D"), caseOf("B"))), api.ErrName)
	for n := range 6 {
		cases := append(manyCases(5), caseOf(fmt.Sprint("C", n)))
		wantWhy(t, with(typeItem("T", cases...)), []api.Errno{api.ErrName, api.OK}[n/5])
	}
}

// P7.1: types that are none, at each place of a type.
func TestRightTypeTexts(t *testing.T) {
	for _, text := range []string{"", " ", "x", "T", "num ", "m.t", "M.T", "[num", "(num)", "()", "num,num", "(num,num,num,num,num,num,num)num", "\xff", "[" + longType[1:] + "]", "[" + longType + "]", "()" + longType, longFun + " ", strings.Repeat("[", 1<<16)} {
		for n := range api.MaxFields {
			fields := manyFields(api.MaxFields)
			fields[n] = text
			wantWhy(t, with(typeItem("T", caseOf("A", fields...))), api.ErrType)
			wantWhy(t, with(typeItem("T", caseOf("A"), caseOf("B", fields[:n+1]...))), api.ErrType)
		}
		wantWhy(t, with(constItem("c", text)), api.ErrType)
		wantWhy(t, with(funItem("f", text)), api.ErrType)
	}
	for _, text := range []string{"num", "bytes", "m.T", "[num]", "[()num]", longType} {
		wantWhy(t, with(constItem("c", text)), api.OK)
		wantWhy(t, with(funItem("f", text)), api.ErrType)
	}
	for _, item := range []api.Item{constItem("c", "num"), constItem("c", "()num"), funItem("c", "()num"), constItem("c", ""), funItem("c", "num")} {
		item.Cases = manyCases(1)
		wantWhy(t, with(item), api.ErrForm)
		item.Cases = []api.Case{{}}
		wantWhy(t, with(item), api.ErrForm)
	}
}

// turn is one thing that is wrong with an ordinary interface.
type turn struct {
	why  api.Errno
	make func(i *api.Iface)
}

// turnsOfHead and turnsOfValue are in the document's order, for the item at index k.
func turnsOfHead(k int, name string) []turn {
	return []turn{
		{api.ErrForm, func(i *api.Iface) { i.Items[k].Kind = 4 }},
		{api.ErrName, func(i *api.Iface) { i.Items[k].Name = name }},
	}
}

func turnsOfValue(k int, wrong string) []turn {
	return []turn{
		{api.ErrForm, func(i *api.Iface) { i.Items[k].Cases = manyCases(1) }},
		{api.ErrType, func(i *api.Iface) { i.Items[k].Type = wrong }},
	}
}

func turnsOfCase(k, n int) []turn {
	return []turn{
		{api.ErrName, func(i *api.Iface) { i.Items[k].Cases[n].Name = "a" }},
		{api.ErrCount, func(i *api.Iface) { i.Items[k].Cases[n].Fields = manyFields(5) }},
		{api.ErrType, func(i *api.Iface) { i.Items[k].Cases[n].Fields = []string{"num", "x"} }},
	}
}

func turns() []turn {
	return slices.Concat(
		[]turn{
			{api.ErrName, func(i *api.Iface) { i.Module = "M" }},
			{api.ErrMany, func(i *api.Iface) { i.Items = append(i.Items, manyConsts(32)...) }},
		},
		turnsOfHead(0, "t"),
		[]turn{{api.ErrForm, func(i *api.Iface) { i.Items[0].Type = "num" }}},
		turnsOfCase(0, 0), turnsOfCase(0, 1), turnsOfHead(1, "A"),
		[]turn{{api.ErrForm, func(i *api.Iface) { i.Items[1].Type = "()num" }}},
		turnsOfCase(1, 0), turnsOfHead(2, "X"), turnsOfValue(2, "x"), turnsOfHead(3, "b"), turnsOfValue(3, "num"), turnsOfHead(4, "f"), turnsOfValue(4, ""),
	)
}

// P7.1 and R3: of two wrong things the first in the document's order is told.
func TestRightTwoFaults(t *testing.T) {
	plain := func() api.Iface {
		return with(typeItem("T", caseOf("A"), caseOf("B", "num")), typeItem("U", caseOf("A")), constItem("c", "num"), funItem("f", "()num"), constItem("g", "num"))
	}
	wantWhy(t, plain(), api.OK)
	l := turns()
	for k, first := range l {
		i := plain()
		first.make(&i)
		wantWhy(t, i, first.why)
		for _, second := range l[k+1:] {
			i := plain()
			second.make(&i)
			first.make(&i)
			wantWhy(t, i, first.why)
		}
	}
}

// R4: nil and empty lists mean the same.
func TestNilAndEmpty(t *testing.T) {
	a := api.Item{Kind: api.Type, Name: "T", Cases: []api.Case{{Name: "A", Fields: []string{}}}}
	b := api.Item{Kind: api.Type, Name: "T", Cases: []api.Case{{Name: "A"}}}
	c, d := constItem("c", "num"), constItem("c", "num")
	d.Cases = []api.Case{}
	if !iface.Same(a, b) || !iface.Same(b, a) || !iface.Same(c, d) || !iface.Same(d, c) {
		t.Error("Same")
	}
	wantBreaks(t, with(a, c), with(b, d), []string{"T", "c"})
	wantBreaks(t, with(b, d), with(a, c), []string{"T", "c"})
	one, _ := iface.Encode(with(a, c))
	other, _ := iface.Encode(with(b, d))
	if string(one) != string(other) || len(one) == 0 {
		t.Errorf("%x, %x", one, other)
	}
}

// R1: nothing at all, to every call.
func TestNothing(t *testing.T) {
	wantWhy(t, api.Iface{}, api.ErrName)
	wantRefused(t, nil, api.ErrEnd, 0)
	wantRefused(t, []byte{}, api.ErrEnd, 0)
	wantNotFound(t, api.Iface{}, "")
	wantBreaks(t, api.Iface{}, api.Iface{}, nil)
	wantBreaks(t, api.Iface{}, api.Iface{}, []string{"", "x"})
	if !iface.Same(api.Item{}, api.Item{}) {
		t.Error("Same")
	}
	if i, why := iface.Of(api.Module{}); told(i) != told(api.Iface{}) || why != api.ErrName {
		t.Errorf("Of: %s, %v", told(i), why)
	}
}
