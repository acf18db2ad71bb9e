package object_test

import (
	"bytes"
	"slices"
	"strings"
	"testing"

	"hawser/api"
	"hawser/iface"
	"hawser/object"
)

// The longest names and types that may be.
var (
	longSmall = "a" + strings.Repeat("b", 23)
	longBig   = "A" + strings.Repeat("b", 23)
	longType  = arrays(97, "m.Type")
	longFun   = "()" + arrays(96, "m.Type")
)

// arrays is the type of arrays within arrays, so many.
func arrays(n int, of string) string { return strings.Repeat("[", n) + of + strings.Repeat("]", n) }

func caseOf(name string, fields ...string) api.Case { return api.Case{Name: name, Fields: fields} }

func typeItem(name string, cases ...api.Case) api.Item {
	return api.Item{Kind: api.Type, Name: name, Cases: cases}
}

func constItem(name, of string) api.Item { return api.Item{Kind: api.Const, Name: name, Type: of} }

func funItem(name, of string) api.Item { return api.Item{Kind: api.Fun, Name: name, Type: of} }

func symbol(module string, item api.Item) object.Symbol {
	return object.Symbol{Module: module, Item: item}
}

// unnamed is a symbol of a function of m without a name.
func unnamed(number string) object.Symbol { return symbol("m", funItem("", number)) }

func empty() object.Object { return object.Object{Module: "m"} }

// plain is a function without a name, of so many bytes.
func plain(size int) object.Fun {
	return object.Fun{Result: "num", Code: bytes.Repeat([]byte{0x0f}, size)}
}

func many[E any](n int, one E) []E { return slices.Repeat([]E{one}, n) }

// ordinary has some of everything.
func ordinary() object.Object {
	return object.Object{
		Module: "m",
		Types: []api.Item{
			typeItem("Tree", caseOf("Leaf"), caseOf("Node", "m.Tree", "num", "m.Tree")),
			typeItem("Ab", caseOf("Only", "(num,[n.Q])bytes")),
		},
		Texts: []string{"num", "[m.Tree]", "num"},
		Globals: []object.Global{
			{Name: "one", Type: "num", Fun: 2},
			{Name: "all", Type: "[m.Ab]", Fun: 3},
		},
		Funs: []object.Fun{
			{Name: "f", Params: []string{"num", "m.Tree"}, Result: "bytes", Locals: 5, Code: []byte{1, 0, 0, 11, 0, 0, 12, 0, 0, 15}},
			{Params: []string{"num", "[bytes]", "m.Tree"}, Captures: 2, Result: "n.Q", Locals: 3, Code: []byte{13, 1, 0, 0}},
			{Result: "num", Code: []byte{15}},
			{Result: "[m.Ab]", Locals: 24},
			{Name: "a", Params: []string{"(num)num"}, Result: "(num)num", Locals: 1, Code: []byte{0, 0}},
		},
		Exports: []string{"Tree", "a", "all", "f"},
		Symbols: []object.Symbol{
			symbol("n", funItem("g", "(num)n.Q")),
			unnamed("1"),
			symbol("m", typeItem("Tree", caseOf("Leaf"), caseOf("Node", "m.Tree", "num", "m.Tree"))),
			symbol("k", constItem("g", "num")),
			symbol("n", constItem("g", "num")),
			symbol("m", funItem("f", "(num,m.Tree)bytes")),
			unnamed("2"),
			symbol("n", typeItem("Q", caseOf("A"))),
		},
		Relocs: []object.Reloc{{Fun: 0, At: 4, Sym: 0}, {Fun: 0, At: 7, Sym: 3}, {Fun: 1, At: 2, Sym: 7}, {Fun: 4, At: 0, Sym: 1}},
	}
}

const ordinaryBytes = "\x01m" +
	"\x02" +
	"\x01\x04Tree\x02\x04Leaf\x00\x04Node\x03\x06m.Tree\x03num\x06m.Tree" +
	"\x01\x02Ab\x01\x04Only\x01\x10(num,[n.Q])bytes" +
	"\x03\x03num\x08[m.Tree]\x03num" +
	"\x02" +
	"\x03one\x03num\x02" +
	"\x03all\x06[m.Ab]\x03" +
	"\x05" +
	"\x01f\x02\x03num\x06m.Tree\x00\x05bytes\x05\x0a\x01\x00\x00\x0b\x00\x00\x0c\x00\x00\x0f" +
	"\x00\x03\x03num\x07[bytes]\x06m.Tree\x02\x03n.Q\x03\x04\x0d\x01\x00\x00" +
	"\x00\x00\x00\x03num\x00\x01\x0f" +
	"\x00\x00\x00\x06[m.Ab]\x18\x00" +
	"\x01a\x01\x08(num)num\x00\x08(num)num\x01\x02\x00\x00" +
	"\x04\x04Tree\x01a\x03all\x01f" +
	"\x08" +
	"\x01n\x03\x01g\x08(num)n.Q" +
	"\x01m\x03\x00\x011" +
	"\x01m\x01\x04Tree\x02\x04Leaf\x00\x04Node\x03\x06m.Tree\x03num\x06m.Tree" +
	"\x01k\x02\x01g\x03num" +
	"\x01n\x02\x01g\x03num" +
	"\x01m\x03\x01f\x11(num,m.Tree)bytes" +
	"\x01m\x03\x00\x012" +
	"\x01n\x01\x01Q\x01\x01A\x00" +
	"\x04\x00\x04\x00\x00\x07\x03\x01\x02\x07\x04\x00\x01"

// lettered is the name at index k of many that are in order of bytes.
func lettered(first string, k int) string {
	return first + string(rune('a'+k/26)) + string(rune('a'+k%26))
}

// full has as many of everything as may be, all of it short enough for MaxObject.
func full() object.Object {
	o := object.Object{Module: "m", Texts: many(32, "num"), Funs: many(48, object.Fun{Result: "num"})}
	for k := range 32 {
		o.Types = append(o.Types, typeItem(lettered("T", k), caseOf("A")))
		o.Globals = append(o.Globals, object.Global{Name: lettered("g", k), Type: "num", Fun: k + 16})
		o.Exports = append(o.Exports, lettered("g", k))
	}
	for k := range 96 {
		o.Symbols = append(o.Symbols, symbol("n", constItem(lettered("c", k), "num")))
	}
	o.Funs[47].Code = make([]byte, 385)
	for k := range 384 {
		o.Relocs = append(o.Relocs, object.Reloc{Fun: 47, At: k, Sym: k % 96})
	}
	return o
}

// sized is an object of so many bytes, about MaxObject.
func sized(size int) object.Object {
	o := object.Object{Module: "m", Funs: append(many(4, plain(1950)), plain(300))}
	left := size - len(bytesByHand(o))
	o.Funs[4] = plain(300 + left)
	return o
}

// rights are objects that Right lets by and that are short enough.
func rights() []object.Object {
	few := object.Object{Module: longSmall, Texts: []string{longType}, Funs: []object.Fun{{Name: longSmall[:23] + "_", Result: longType[1 : len(longType)-1]}}}
	return []object.Object{
		empty(), ordinary(), full(), few, sized(8191), sized(8192),
		{Module: "m", Funs: []object.Fun{plain(2048), plain(127), plain(128)}},
		{Module: "_", Types: []api.Item{typeItem(longBig, caseOf(longBig, longType, longFun, "num", "_.T"))}, Exports: []string{longBig}},
		{Module: "m", Symbols: []object.Symbol{symbol("a", funItem("f", longFun)), symbol("a", constItem("f", longType))}},
	}
}

func wantRight(t *testing.T, what string, o object.Object, why api.Errno, n int) {
	t.Helper()
	if gotWhy, got := object.Right(o); gotWhy != why || got != n {
		t.Errorf("%s: Right: %v, %d, want %v, %d", what, gotWhy, got, why, n)
	}
}

// wantRound: P14.2 and P14.4, of an object and its bytes.
func wantRound(t *testing.T, what string, o object.Object, want []byte) {
	t.Helper()
	b, why := object.Encode(o)
	if !bytes.Equal(b, want) || why != api.OK {
		t.Errorf("%s: Encode: %.300x, %v, want %.300x", what, b, why, want)
	}
	got, why, at := object.Decode(want)
	if told(got) != told(o) || why != api.OK || at != 0 {
		t.Errorf("%s: Decode: %.300s, %v at %d, want %.300s", what, told(got), why, at, told(o))
	}
}

// The chapter's runs.
func TestRuns(t *testing.T) {
	b, why := object.Encode(object.Object{Module: "m"})
	if string(b) != "\x01\x6d\x00\x00\x00\x00\x00\x00\x00" || why != api.OK {
		t.Errorf("Encode({Module m}): % x, %v", b, why)
	}
	if why, n := object.Right(object.Object{Module: "M"}); why != api.ErrName || n != 0 {
		t.Errorf("Right({Module M}): %v, %d", why, n)
	}
}

// The chapter's examples.
func TestExamples(t *testing.T) {
	two := object.Object{Module: "m", Funs: []object.Fun{{Result: "num"}, {Result: "num"}}}
	wantRight(t, "two functions without a name", two, api.OK, 0)
	wantRight(t, "an export that is none", object.Object{Module: "m", Exports: []string{"f"}}, api.ErrNone, 0)
	if l := object.Imports(object.Object{}); len(l) != 0 {
		t.Errorf("Imports of none: %q", l)
	}
	if l := object.Imports(empty()); len(l) != 0 {
		t.Errorf("Imports of none: %q", l)
	}
}

// Sign: the parameters behind the first Captures, which are brought between 0 and how many there are.
func TestSign(t *testing.T) {
	l := []string{"num", "bytes", "[m.T]"}
	for _, c := range []struct {
		params   []string
		captures int
		result   string
		want     string
	}{
		{nil, 0, "num", "()num"},
		{nil, 1, "num", "()num"},
		{nil, -1, "", "()"},
		{l[:1], 0, "num", "(num)num"},
		{l[:1], 1, "(num)num", "()(num)num"},
		{l, 0, "num", "(num,bytes,[m.T])num"},
		{l, 1, "num", "(bytes,[m.T])num"},
		{l, 2, "num", "([m.T])num"},
		{l, 3, "num", "()num"},
		{l, 4, "num", "()num"},
		{l, -1, "num", "(num,bytes,[m.T])num"},
		{l, 1<<63 - 1, "num", "()num"},
		{l, -1 << 63, "num", "(num,bytes,[m.T])num"},
		{many(9, "num"), 2, "m.T", "(num,num,num,num,num,num,num)m.T"},
		{[]string{"", "?", ""}, 0, "\xff", "(,?,)\xff"},
	} {
		f := object.Fun{Name: "f", Params: c.params, Captures: c.captures, Result: c.result, Locals: -3, Code: []byte{7}}
		if got := object.Sign(f); got != c.want || got != signByHand(f) {
			t.Errorf("Sign(%q, %d, %q): %q, want %q", c.params, c.captures, c.result, got, c.want)
		}
	}
}

// P14.2, P14.4: the bytes, field by field, and back.
func TestBytes(t *testing.T) {
	wantRound(t, "ordinary", ordinary(), []byte(ordinaryBytes))
	for what, c := range map[string]struct {
		o    object.Object
		want string
	}{
		"nothing":  {empty(), "\x01m\x00\x00\x00\x00\x00\x00\x00"},
		"a text":   {object.Object{Module: "ab", Texts: []string{"num"}}, "\x02ab\x00\x01\x03num\x00\x00\x00\x00\x00"},
		"a type":   {object.Object{Module: "m", Types: []api.Item{typeItem("T", caseOf("A"))}}, "\x01m\x01\x01\x01T\x01\x01A\x00\x00\x00\x00\x00\x00\x00"},
		"a global": {object.Object{Module: "m", Globals: []object.Global{{Name: "c", Type: "bytes", Fun: 1}}, Funs: many(2, plain(0))}, "\x01m\x00\x00\x01\x01c\x05bytes\x01\x02\x00\x00\x00\x03num\x00\x00\x00\x00\x00\x03num\x00\x00\x00\x00\x00"},
		"a function": {object.Object{Module: "m", Funs: []object.Fun{{Params: []string{"num", "bytes"}, Captures: 1, Result: "m.T", Locals: 7, Code: []byte("code")}}},
			"\x01m\x00\x00\x00\x01\x00\x02\x03num\x05bytes\x01\x03m.T\x07\x04code\x00\x00\x00"},
		"code of 200 bytes": {object.Object{Module: "m", Funs: []object.Fun{plain(200)}}, "\x01m\x00\x00\x00\x01\x00\x00\x00\x03num\x00\xc8\x01" + strings.Repeat("\x0f", 200) + "\x00\x00\x00"},
		"an export":         {object.Object{Module: "m", Funs: []object.Fun{{Name: "f", Result: "num"}}, Exports: []string{"f"}}, "\x01m\x00\x00\x00\x01\x01f\x00\x00\x03num\x00\x00\x01\x01f\x00\x00"},
		"a symbol":          {object.Object{Module: "m", Symbols: []object.Symbol{symbol("no", constItem("c", "num"))}}, "\x01m\x00\x00\x00\x00\x00\x01\x02no\x02\x01c\x03num\x00"},
		"a relocation": {object.Object{Module: "m", Funs: []object.Fun{plain(0), plain(300)}, Symbols: []object.Symbol{unnamed("0"), unnamed("1")}, Relocs: []object.Reloc{{Fun: 1, At: 298, Sym: 1}}},
			"\x01m\x00\x00\x00\x02\x00\x00\x00\x03num\x00\x00\x00\x00\x00\x03num\x00\xac\x02" + strings.Repeat("\x0f", 300) + "\x00\x02\x01m\x03\x00\x010\x01m\x03\x00\x011\x01\x01\xaa\x02\x01"},
	} {
		wantRound(t, what, c.o, []byte(c.want))
	}
	for _, o := range rights() {
		wantRight(t, "a right one", o, api.OK, 0)
		wantRound(t, "a right one", o, bytesByHand(o))
	}
}

// P14.2: MaxObject bytes, and one more, in both directions.
func TestObjectLength(t *testing.T) {
	for _, size := range []int{8190, 8191, 8192} {
		o := sized(size)
		if n := len(bytesByHand(o)); n != size {
			t.Fatalf("%d bytes, not %d", n, size)
		}
		wantRound(t, "sized", o, bytesByHand(o))
	}
	for _, size := range []int{8193, 8194, 8300} {
		o := sized(size)
		wantRight(t, "sized", o, api.OK, 0)
		if b, why := object.Encode(o); len(b) != 0 || why != api.ErrLong {
			t.Errorf("Encode of one of %d bytes: %d bytes, %v", size, len(b), why)
		}
		wantRefused(t, bytesByHand(o), api.ErrLong, 0)
		if _, why := object.Iface(o); why != api.OK {
			t.Errorf("Iface of one of %d bytes: %v", size, why)
		}
	}
	most := object.Object{Module: "m", Funs: many(48, plain(2048))}
	wantRight(t, "all the code that may be", most, api.OK, 0)
	if b, why := object.Encode(most); len(b) != 0 || why != api.ErrLong {
		t.Errorf("Encode of all the code that may be: %d bytes, %v", len(b), why)
	}
	most.Relocs = []object.Reloc{{}}
	if b, why := object.Encode(most); len(b) != 0 || why != api.ErrRef {
		t.Errorf("Encode of one that is too long and not right: %d bytes, %v", len(b), why)
	}
}

func wantIface(t *testing.T, what string, o object.Object, want api.Iface) {
	t.Helper()
	got, why := object.Iface(o)
	if toldIface(got) != toldIface(want) || why != api.OK {
		t.Errorf("%s: Iface: %.500s, %v, want %.500s", what, toldIface(got), why, toldIface(want))
	}
	if why := iface.Right(got); why != api.OK {
		t.Errorf("%s: Iface: %.500s is not right: %v", what, toldIface(got), why)
	}
}

// P14.3: what is exported of an object, and nothing else.
func TestIface(t *testing.T) {
	wantIface(t, "nothing", empty(), api.Iface{Module: "m"})
	wantIface(t, "ordinary", ordinary(), api.Iface{Module: "m", Items: []api.Item{
		typeItem("Tree", caseOf("Leaf"), caseOf("Node", "m.Tree", "num", "m.Tree")),
		funItem("a", "((num)num)(num)num"),
		constItem("all", "[m.Ab]"),
		funItem("f", "(num,m.Tree)bytes"),
	}})
	o := ordinary()
	o.Exports = nil
	wantIface(t, "no exports", o, api.Iface{Module: "m"})
	o.Exports = []string{"Ab", "Tree", "a", "all", "f", "one"}
	wantIface(t, "all", o, ifaceByTaking(o))
	if i := ifaceByTaking(o); len(i.Items) != 6 {
		t.Errorf("all: %s", toldIface(i))
	}
	o.Exports = []string{"one"}
	wantIface(t, "one", o, api.Iface{Module: "m", Items: []api.Item{constItem("one", "num")}})
	for _, o := range rights() {
		wantIface(t, "a right one", o, ifaceByTaking(o))
	}
}

// P14.3: Iface refuses what Right does, and answers nothing beside that.
func TestIfaceRefused(t *testing.T) {
	for _, c := range wrongs() {
		if i, why := object.Iface(c.o); why != c.why || toldIface(i) != toldIface(api.Iface{}) {
			t.Errorf("%s: Iface: %.300s, %v, want %v", c.what, toldIface(i), why, c.why)
		}
	}
}

// P14.3: Imports of any object, a right one or not.
func TestImports(t *testing.T) {
	c := constItem("c", "num")
	for _, x := range []struct {
		module  string
		modules string
		want    string
	}{
		{"m", "", ""},
		{"m", "m", ""},
		{"m", "m m m", ""},
		{"m", "n", "n"},
		{"m", "n k m k n a", "a k n"},
		{"m", "b ab a abc B _ aa", "B _ a aa ab abc b"},
		{"M", "M m", "m"},
		{"", "z \xff 9 z", "9 z \xff"},
	} {
		o := object.Object{Module: x.module}
		for _, module := range strings.Fields(x.modules) {
			o.Symbols = append(o.Symbols, symbol(module, c))
		}
		if got := strings.Join(object.Imports(o), " "); got != x.want {
			t.Errorf("Imports of %q into %q: %q, want %q", x.modules, x.module, got, x.want)
		}
	}
	if got := object.Imports(ordinary()); !slices.Equal(got, []string{"k", "n"}) {
		t.Errorf("Imports: %q", got)
	}
	odd := object.Object{Module: "m", Symbols: []object.Symbol{{}, symbol("n", api.Item{Kind: -1}), {}}}
	if got := object.Imports(odd); !slices.Equal(got, []string{"", "n"}) {
		t.Errorf("Imports: %q", got)
	}
	if got := object.Imports(object.Object{Symbols: many(3, object.Symbol{})}); len(got) != 0 {
		t.Errorf("Imports: %q", got)
	}
	far := object.Object{Module: "m", Symbols: many(100000, symbol("n", c))}
	if got := object.Imports(far); !slices.Equal(got, []string{"n"}) {
		t.Errorf("Imports: %q", got)
	}
}
