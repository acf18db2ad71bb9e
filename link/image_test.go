package link_test

import (
	"fmt"
	"slices"
	"strings"
	"testing"

	"hawser/api"
	"hawser/link"
	"hawser/object"
)

func symbols(items ...object.Symbol) part {
	return func(o *object.Object) { o.Symbols = append(o.Symbols, items...) }
}

func symbol(module string, item api.Item) object.Symbol {
	return object.Symbol{Module: module, Item: item}
}

// ordinary are two modules with something in each list; the one whose name comes last stands first in an image.
func ordinary() []object.Object {
	z := made("z",
		types(typeItem("T", caseOf("A", "num", "z.S"), caseOf("B")), typeItem("S", caseOf("X"))),
		global("d", "bytes", 2), global("c", "num", 0),
		fun("", "\x09\x01\x00\x00\x0f"), fun("g", "\x0c\x00\x00\x0f", "num"), fun("", "\x02\x00\x0f"), fun("f", "", "bytes", "z.S"),
		exports("T", "c", "f", "g"),
		needs("z", constItem("c", "num"), typeItem("T", caseOf("A", "num", "z.S"), caseOf("B"))),
		reloc(0, 2, 1), reloc(1, 1, 0))
	m := made("m",
		types(typeItem("U", caseOf("C", "[z.T]"))),
		global("a", "num", 1),
		fun("h", "\x0b\x00\x00\x0c\x00\x00\x0f"), fun("", "\x0d\x01\x00\x00\x0b\x00\x00"), func(o *object.Object) {
			o.Texts = []string{"[num]"}
			o.Funs = append(o.Funs, object.Fun{Params: []string{"num", "bytes", "num"}, Captures: 2, Result: "bytes", Locals: 7, Code: []byte("\x0a\x01\x00\x00\x0f")})
		},
		exports("U", "a", "h"),
		symbols(symbol("z", funItem("g", "(num)num")), symbol("m", funItem("", "2")), symbol("m", typeItem("U", caseOf("C", "[z.T]"))), symbol("m", constItem("a", "num")), symbol("m", funItem("h", "()num"))),
		reloc(0, 1, 0), reloc(0, 4, 3), reloc(1, 2, 1), reloc(1, 5, 4), reloc(2, 2, 2))
	return []object.Object{m, z}
}

// P19.2: all that an ordinary image has.
func TestOrdinary(t *testing.T) {
	code := func(s string) []byte { return []byte(s) }
	want := answer{
		image: link.Image{
			Types: []api.Item{typeItem("z.T", caseOf("A", "num", "z.S"), caseOf("B")), typeItem("z.S", caseOf("X")), typeItem("m.U", caseOf("C", "[z.T]"))},
			Globals: []link.Slot{
				{Name: "z.d", Type: "bytes", Fun: 2}, {Name: "z.c", Type: "num", Fun: 0}, {Name: "m.a", Type: "num", Fun: 5},
			},
			Order: []int{0, 1, 2},
			Funs: []link.Body{
				{Code: code("\x09\x01\x00\x00\x0f")}, {Params: 1, Locals: 1, Code: code("\x0c\x00\x01\x0f")}, {Code: code("\x02\x00\x0f")}, {Params: 2, Locals: 2},
				{Code: code("\x0b\x00\x01\x0c\x00\x02\x0f")}, {Code: code("\x0d\x01\x00\x06\x0b\x00\x04")}, {Params: 3, Captures: 2, Locals: 7, Code: code("\x0a\x01\x00\x02\x0f")},
			},
			Entries: []link.Entry{
				{Name: "m.h", Type: "()num", Fun: 4}, {Name: "z.f", Type: "(bytes,z.S)num", Fun: 3}, {Name: "z.g", Type: "(num)num", Fun: 1},
			},
		},
		stats: link.Stats{Copied: 31, Patched: 14},
	}
	wantAnswer(t, "ordinary", ordinary(), want)
}

// moduleNames are those of an image's entries, in the order of their functions; each module has one.
func moduleNames(i link.Image) string {
	l := slices.Clone(i.Entries)
	slices.SortFunc(l, func(a, b link.Entry) int { return a.Fun - b.Fun })
	var names []string
	for _, e := range l {
		names = append(names, strings.TrimSuffix(e.Name, ".f"))
	}
	return strings.Join(names, " ")
}

// P19.2: modules in graph's order, whoever needs whom.
func TestModules(t *testing.T) {
	for _, c := range []struct {
		l    []object.Object
		want string
	}{
		{[]object.Object{needing("a")}, "a"},
		{[]object.Object{needing("a"), needing("b"), needing("c")}, "a b c"},
		{[]object.Object{needing("a", "b"), needing("b")}, "b a"},
		{[]object.Object{needing("a", "a", "b"), needing("b", "b")}, "b a"},
		{[]object.Object{needing("a", "b"), needing("b", "c"), needing("c", "d"), needing("d")}, "d c b a"},
		{[]object.Object{needing("a", "b", "c"), needing("b", "d"), needing("c", "d"), needing("d")}, "d b c a"},
		{[]object.Object{needing("d", "b", "c"), needing("b", "a"), needing("c", "a"), needing("a")}, "a b c d"},
		{[]object.Object{needing("a", "d"), needing("b"), needing("c"), needing("d", "c")}, "b c d a"},
		{[]object.Object{needing("a", "z"), needing("b"), needing("y"), needing("z")}, "b y z a"},
		{[]object.Object{needing("a1"), needing("a_"), needing("aA"), needing("a"), needing("_")}, "_ a a1 aA a_"},
		{[]object.Object{needing("e", "a"), needing("a", "c"), needing("b", "d"), needing("c"), needing("d")}, "c a d b e"},
	} {
		got := wantLinked(t, c.want, c.l)
		if names := moduleNames(got.image); names != c.want {
			t.Errorf("%s, want %s", names, c.want)
		}
		for _, e := range got.image.Entries {
			if e.Fun != slices.Index(strings.Fields(c.want), strings.TrimSuffix(e.Name, ".f")) {
				t.Errorf("%s: %+v", c.want, e)
			}
		}
	}
}

// P19.2: types, globals and functions stand as they do in their object, not by their names.
func TestListsAsTheyStand(t *testing.T) {
	of := func(module string) object.Object {
		return made(module, types(typeItem("Z", caseOf("B"), caseOf("A", "num", "bytes")), typeItem("A", caseOf("Y")), typeItem("M", caseOf("A"))),
			global("z", "num", 3), global("a", "bytes", 0), global("_", "num", 3),
			func(o *object.Object) {
				for k, name := range []string{"y", "", "b", "", ""} {
					o.Funs = append(o.Funs, object.Fun{Name: name, Result: "num", Locals: k})
				}
			})
	}
	got := wantLinked(t, "lists", []object.Object{of("n"), of("m")}).image
	var names []string
	for _, x := range got.Types {
		names = append(names, x.Name)
	}
	for _, g := range got.Globals {
		names = append(names, g.Name, fmt.Sprint(g.Fun))
	}
	for _, f := range got.Funs {
		names = append(names, fmt.Sprint(f.Locals))
	}
	if s, want := strings.Join(names, " "), "m.Z m.A m.M n.Z n.A n.M m.z 3 m.a 0 m._ 3 n.z 8 n.a 5 n._ 8 0 1 2 3 4 0 1 2 3 4"; s != want {
		t.Errorf("%s, want %s", s, want)
	}
	if s, want := told(got.Types[0].Cases), told([]api.Case{caseOf("B"), caseOf("A", "num", "bytes")}); s != want {
		t.Errorf("%s, want %s", s, want)
	}
	if s := told(got.Order); s != "[0 1 2 3 4 5]" {
		t.Errorf("Order %s", s)
	}
}

// filled has as many types, globals and functions as may be, and entries of no name that another kind has.
func filled(module string, parts ...part) object.Object {
	o := made(module)
	for k := range api.MaxItems {
		o.Types = append(o.Types, typeItem(fmt.Sprintf("T%02d", k), caseOf("A")))
		global(fmt.Sprintf("c%02d", k), "num", k)(&o)
	}
	for k := range api.MaxFuns {
		funs(fmt.Sprintf("f%02d", k))(&o)
	}
	o.Funs[47].Name = ""
	exports("T00", "T31", "c00", "c31", "f00", "f46")(&o)
	for _, p := range parts {
		p(&o)
	}
	return o
}

// P19.2: numbers of more than a byte, among those of twelve full modules.
func TestGreatNumbers(t *testing.T) {
	var l []object.Object
	for k := range 11 {
		l = append(l, filled(fmt.Sprintf("b%02d", k)))
	}
	last := filled("c", func(o *object.Object) {
		for _, module := range []string{"b00", "b05", "b10"} {
			needs(module, typeItem("T00", caseOf("A")), typeItem("T31", caseOf("A")), constItem("c00", "num"), constItem("c31", "num"), funItem("f00", "()num"), funItem("f46", "()num"))(o)
		}
		needs("c", typeItem("T30", caseOf("A")), constItem("c30", "num"), funItem("f45", "()num"), funItem("", "47"))(o)
		o.Funs[47].Code = []byte(strings.Repeat("\xff", 2*len(o.Symbols)))
		for k := range o.Symbols {
			reloc(47, 2*k, k)(o)
		}
	})
	got := wantLinked(t, "twelve full ones", append(l, last))
	var want []byte
	for _, n := range []int{0, 31, 0, 31, 0, 46, 160, 191, 160, 191, 240, 286, 320, 351, 320, 351, 480, 526, 382, 382, 573, 575} {
		want = append(want, byte(n/256), byte(n%256))
	}
	if code := got.image.Funs[575].Code; string(code) != string(want) {
		t.Errorf("%x, want %x", code, want)
	}
	if len(got.image.Types) != 384 || len(got.image.Globals) != 384 || len(got.image.Order) != 384 || len(got.image.Funs) != 576 || len(got.image.Entries) != 24 {
		t.Errorf("%d types, %d globals, %d in order, %d functions, %d entries", len(got.image.Types), len(got.image.Globals), len(got.image.Order), len(got.image.Funs), len(got.image.Entries))
	}
	if got.image.Types[383].Name != "c.T31" || told(got.image.Globals[383]) != "{Name:c.c31 Type:num Fun:559}" || got.image.Order[383] != 383 || told(got.image.Entries[23]) != "{Name:c.f46 Type:()num Fun:574}" {
		t.Errorf("%v, %+v, %d, %+v", got.image.Types[383], got.image.Globals[383], got.image.Order[383], got.image.Entries[23])
	}
	if got.stats != (link.Stats{Copied: 44, Patched: 44}) {
		t.Errorf("%+v", got.stats)
	}
}

// allBytes are as many as code may have, each of them in it.
func allBytes() string {
	var b strings.Builder
	for k := range api.MaxCode {
		b.WriteByte(byte(k*7 + k/256))
	}
	return b.String()
}

// P19.2: where relocations may stand, and that nothing else of code is looked at or turned.
func TestRelocations(t *testing.T) {
	ahead := made("a", funs("", "", "", "", ""))
	all := allBytes()
	for _, c := range []struct {
		what, code string
		at         []int
		want       string
	}{
		{"none", all, nil, all},
		{"no code", "", nil, ""},
		{"one byte", "\xee", nil, "\xee"},
		{"two bytes", "\xee\xef", []int{0}, "\x00\x05"},
		{"at the beginning", "\xee\xef\xf0", []int{0}, "\x00\x05\xf0"},
		{"at the end", "\xee\xef\xf0", []int{1}, "\xee\x00\x05"},
		{"behind one another", "\xee\xef\xf0\xf1\xf2\xf3", []int{0, 2, 4}, "\x00\x05\x00\x05\x00\x05"},
		{"apart", "\xee\xef\xf0\xf1\xf2\xf3\xf4", []int{0, 3, 5}, "\x00\x05\xf0\x00\x05\x00\x05"},
		{"over one another", "\xee\xef\xf0\xf1", []int{0, 1}, "\x00\x00\x05\xf1"},
		{"both ends of the longest", all, []int{0, 1000, 2046}, "\x00\x05" + all[2:1000] + "\x00\x05" + all[1002:2046] + "\x00\x05"},
		{"what looks like code", "\x0b\x00\x00\x0b\x00\x00\x0f", []int{4}, "\x0b\x00\x00\x0b\x00\x05\x0f"},
	} {
		m := made("m", fun("f", c.code), fun("g", c.code), needs("m", funItem("f", "()num")))
		for _, at := range c.at {
			reloc(0, at, 0)(&m)
		}
		got := wantLinked(t, c.what, []object.Object{ahead, m})
		if code := string(got.image.Funs[5].Code); code != c.want {
			t.Errorf("%s: %.100x, want %.100x", c.what, code, c.want)
		}
		if code := string(got.image.Funs[6].Code); code != c.code {
			t.Errorf("%s: what has no relocation: %.100x, want %.100x", c.what, code, c.code)
		}
		if want := (link.Stats{Copied: 2 * len(c.code), Patched: 2 * len(c.at)}); got.stats != want {
			t.Errorf("%s: %+v, want %+v", c.what, got.stats, want)
		}
	}
}

// P19.2: the relocations of each function are its own, and those of each symbol.
func TestRelocationsOfSeveral(t *testing.T) {
	n := made("n", funs("", "", "x", "y"), exports("x", "y"))
	m := made("m", fun("", "\x01\x01\x01\x01"), fun("f", "\x02\x02\x02\x02"), fun("g", "\x03\x03\x03\x03"),
		needs("n", funItem("y", "()num")), needs("m", funItem("g", "()num"), funItem("", "0")), needs("n", funItem("x", "()num")),
		reloc(0, 0, 3), reloc(0, 2, 0), reloc(1, 1, 1), reloc(2, 0, 3), reloc(2, 2, 2))
	a := made("a", fun("f", "\x04\x04"), needs("n", funItem("x", "()num")), reloc(0, 0, 0))
	got := wantLinked(t, "several", []object.Object{n, m, a})
	var codes []string
	for _, f := range got.image.Funs {
		codes = append(codes, fmt.Sprintf("%x", f.Code))
	}
	if s, want := strings.Join(codes, " "), "    0002 00020003 02000702 00020005"; s != want {
		t.Errorf("%q, want %q", s, want)
	}
	if got.stats != (link.Stats{Copied: 14, Patched: 12}) {
		t.Errorf("%+v", got.stats)
	}
}

// P19.2: entries are the functions that are exported, with their number among all, by their names' bytes.
func TestEntries(t *testing.T) {
	b := made("b", types(typeItem("T", caseOf("A"))), global("c", "num", 0),
		fun("", ""), fun("z", "", "bytes", "[num]", "(num)num", "b.T", "c.X", "num"), fun("hidden", ""), fun("_", ""), fun("a", "", "(num,bytes)()num"),
		exports("T", "_", "a", "c", "z"))
	b.Funs[3].Result = "b.T"
	b.Funs[2].Locals, b.Funs[4].Locals = 24, 9
	want := []link.Entry{{"a.f", "()num", 6}, {"b._", "()b.T", 3}, {"b.a", "((num,bytes)()num)num", 4}, {"b.z", "(bytes,[num],(num)num,b.T,c.X,num)num", 1}, {"b1.f", "()num", 7}, {"bA.f", "()num", 5}, {"b_.f", "()num", 8}}
	bA := needing("bA")
	needs("b", funItem("_", "()b.T"))(&bA)
	l := []object.Object{b, bA, needing("a", "bA"), needing("b1", "bA"), needing("b_", "a")}
	got := wantLinked(t, "entries", l)
	if told(got.image.Entries) != told(want) {
		t.Errorf("%+v, want %+v", got.image.Entries, want)
	}
	if none := wantLinked(t, "none", []object.Object{made("b", types(typeItem("T", caseOf("A"))), global("c", "num", 0), funs("f"), exports("T", "c"))}); len(none.image.Entries) > 0 {
		t.Errorf("no function is exported: %+v", none.image.Entries)
	}
}

// P19.2: names as long as they may be.
func TestLongNames(t *testing.T) {
	long := strings.Repeat("m", api.MaxName)
	upper := "T" + long[1:]
	o := made(long, types(typeItem(upper, caseOf(upper, long+"."+upper))), global("c"+long[1:], long+"."+upper, 0), funs("f"+long[1:]), exports(upper, "f"+long[1:]),
		needs(long, typeItem(upper, caseOf(upper, long+"."+upper)), funItem("f"+long[1:], "()num")))
	i := wantLinked(t, "long", []object.Object{o, made("a", needs(long, funItem("f"+long[1:], "()num")))}).image
	if i.Types[0].Name != long+"."+upper || i.Globals[0].Name != long+".c"+long[1:] || i.Entries[0].Name != long+".f"+long[1:] {
		t.Errorf("%+v", i)
	}
}

// P19.2: what stands in several modules by one name is told apart.
func TestOneNameInSeveral(t *testing.T) {
	var l []object.Object
	for _, module := range []string{"a", "b", "c"} {
		o := made(module, types(typeItem("T", caseOf("A"))), global("c", "num", 0), fun("f", "123456"), exports("T", "c", "f"))
		for _, other := range []string{"a", "b", "c"} {
			if other <= module {
				needs(other, typeItem("T", caseOf("A")), constItem("c", "num"), funItem("f", "()num"))(&o)
			}
		}
		for k := range 3 {
			reloc(0, 2*k, len(o.Symbols)-3+k)(&o)
		}
		l = append(l, o)
	}
	l[2].Relocs[1].Sym, l[2].Relocs[2].Sym = 1, 5
	i := wantLinked(t, "one name", l).image
	if got, want := fmt.Sprintf("%x %x %x", i.Funs[0].Code, i.Funs[1].Code, i.Funs[2].Code), "000000000000 000100010001 000200000001"; got != want {
		t.Errorf("%s, want %s", got, want)
	}
}
