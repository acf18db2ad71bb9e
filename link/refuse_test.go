package link_test

import (
	"fmt"
	"slices"
	"testing"

	"hawser/api"
	"hawser/link"
	"hawser/object"
)

func wrong(importer, module, name string) link.Wrong {
	return link.Wrong{Importer: importer, Module: module, Name: name}
}

// several are so many modules without anything.
func several(n int) []object.Object {
	var out []object.Object
	for k := range n {
		out = append(out, made(fmt.Sprintf("m%02d", k)))
	}
	return out
}

// P19.1: as many modules as may be, and more.
func TestMany(t *testing.T) {
	for n := range api.MaxModules + 1 {
		if got := wantLinked(t, fmt.Sprint(n, " modules"), several(n)); told(got) != told(answer{}) {
			t.Errorf("%d modules: %s", n, told(got))
		}
	}
	for _, n := range []int{13, 14, 25, 100} {
		wantRefused(t, fmt.Sprint(n, " modules"), several(n), api.ErrMany, link.Wrong{})
		wantRefused(t, fmt.Sprint(n, " of one name"), slices.Repeat([]object.Object{made("m")}, n), api.ErrMany, link.Wrong{})
	}
	missing, a, b := made("x", needs("y", funItem("f", "()num"))), made("a", needs("b", funItem("f", "()num"))), made("b", needs("a", funItem("f", "()num")))
	wantRefused(t, "13, one lacks", append(several(12), missing), api.ErrMany, link.Wrong{})
	wantRefused(t, "12, one lacks", append(several(11), missing), api.ErrMissing, wrong("x", "y", "f"))
	wantRefused(t, "13 with a ring", append(several(11), a, b), api.ErrMany, link.Wrong{})
	wantRefused(t, "12 with a ring", append(several(10), a, b), api.ErrCycle, link.Wrong{})
	wantRefused(t, "13 with a wrong one", append(several(11), shows("b", "f"), made("a", needs("b", funItem("f", "()bytes")))), api.ErrMany, link.Wrong{})
}

// P19.1: the least of the names that are there more than once.
func TestTaken(t *testing.T) {
	of := func(modules ...string) []object.Object {
		var out []object.Object
		for k, module := range modules {
			out = append(out, made(module, funs([]string{"f", "g", "h", "i", "j", "k"}[k%6])))
		}
		return out
	}
	for _, c := range []struct {
		l     []object.Object
		taken string
	}{
		{of("m", "m"), "m"}, {of("m", "m", "m"), "m"}, {of("b", "b", "a"), "b"}, {of("b", "b", "c"), "b"}, {of("b", "a", "c", "b"), "b"},
		{of("b", "c", "b", "c"), "b"}, {of("c", "b", "c", "c", "b"), "b"}, {of("a", "z", "c", "c", "z"), "c"},
		{of("aa", "a", "aa", "a"), "a"}, {of("ab", "aa", "ab", "aa", "a"), "aa"}, {of("a_", "a1", "a_", "a1"), "a1"}, {of("a", "_", "a", "_"), "_"}, {of("aB", "aa", "aB", "aa"), "aB"},
		{slices.Repeat(of("m"), 12), "m"}, {append(of("l", "l"), slices.Repeat(of("m"), 10)...), "l"},
		{[]object.Object{made("m"), made("m")}, "m"},
		{[]object.Object{made("m", needs("n", funItem("f", "()num"))), made("m")}, "m"},
		{[]object.Object{made("m", needs("n", funItem("f", "()num"))), made("n", needs("m", funItem("f", "()num"))), made("z"), made("z")}, "z"},
		{[]object.Object{made("a", needs("z", funItem("f", "()bytes"))), shows("z", "f"), shows("z", "g")}, "z"},
	} {
		wantRefused(t, c.taken, c.l, api.ErrTaken, link.Wrong{Module: c.taken})
	}
}

// needing is a module that exports f and needs f of the others.
func needing(module string, others ...string) object.Object {
	o := shows(module, "f")
	for _, other := range others {
		needs(other, funItem("f", "()num"))(&o)
	}
	return o
}

// P19.1: rings, of those that are there.
func TestCycle(t *testing.T) {
	of := func(l ...object.Object) []object.Object { return l }
	for what, l := range map[string][]object.Object{
		"two":                       of(needing("a", "b"), needing("b", "a")),
		"three":                     of(needing("a", "b"), needing("b", "c"), needing("c", "a")),
		"six":                       of(needing("a", "b"), needing("b", "c"), needing("c", "d"), needing("d", "e"), needing("e", "f"), needing("f", "a")),
		"behind one":                of(needing("a", "b"), needing("b", "c"), needing("c", "b")),
		"ahead of one":              of(needing("a", "b"), needing("b", "a", "c"), needing("c")),
		"beside one":                of(needing("a"), needing("b", "c"), needing("c", "b")),
		"two rings":                 of(needing("a", "b"), needing("b", "a"), needing("c", "d"), needing("d", "c")),
		"with one's own":            of(needing("a", "a", "b"), needing("b", "b", "a")),
		"and one that is not there": of(needing("a", "b"), needing("b", "a"), needing("c", "x")),
		"and one of them lacks":     of(needing("a", "b", "x"), needing("b", "a", "y")),
		"names that are not there":  of(made("a", needs("b", funItem("f", "()num"))), made("b", needs("a", constItem("c", "num")))),
		"and one that is unlike":    of(needing("a", "b"), needing("b", "a"), made("c", needs("b", funItem("f", "()bytes")))),
		"of types":                  of(made("a", types(typeItem("T", caseOf("A"))), exports("T"), needs("b", typeItem("T", caseOf("A")))), made("b", types(typeItem("T", caseOf("A"))), exports("T"), needs("a", typeItem("T", caseOf("A"))))),
	} {
		wantRefused(t, what, l, api.ErrCycle, link.Wrong{})
	}
	for what, l := range map[string][]object.Object{
		"its own":   of(needing("a", "a")),
		"a chain":   of(needing("a", "b"), needing("b", "c"), needing("c", "d"), needing("d")),
		"a diamond": of(needing("a", "b", "c"), needing("b", "d"), needing("c", "d"), needing("d")),
		"all":       of(needing("a", "b", "c", "d"), needing("b", "c", "d"), needing("c", "d"), needing("d", "d")),
	} {
		wantLinked(t, what, l)
	}
	wantRefused(t, "through one that is not there", of(needing("a", "b"), needing("c", "a")), api.ErrMissing, wrong("a", "b", "f"))
}

// full has one of each kind that is exported, and one that is not.
func full(module string) object.Object {
	return made(module,
		types(typeItem("T", caseOf("A", "num", module+".U"), caseOf("B")), typeItem("U", caseOf("A"))),
		global("c", "num", 0), global("d", "bytes", 1),
		fun("", ""), fun("", ""), fun("f", "", "num"), fun("g", "", "bytes"),
		exports("T", "c", "f"))
}

// haves are what a full one has, as others would ask for it: what is exported, and what is not.
func haves(module string) (shown, hidden []api.Item) {
	shown = []api.Item{typeItem("T", caseOf("A", "num", module+".U"), caseOf("B")), constItem("c", "num"), funItem("f", "(num)num")}
	hidden = []api.Item{typeItem("U", caseOf("A")), constItem("d", "bytes"), funItem("g", "(bytes)num")}
	return shown, hidden
}

// P19.1: what is there, of others and of one's own.
func TestThere(t *testing.T) {
	shown, hidden := haves("n")
	n := full("n")
	for _, item := range shown {
		wantLinked(t, told(item), []object.Object{n, made("m", needs("n", item))})
		wantLinked(t, told(item), []object.Object{n, made("z", needs("n", item))})
	}
	wantLinked(t, "all", []object.Object{n, made("m", needs("n", shown...))})
	for _, item := range slices.Concat(shown, hidden) {
		own := full("n")
		needs("n", item)(&own)
		wantLinked(t, "own "+told(item), []object.Object{own})
		wantLinked(t, "own "+told(item), []object.Object{own, made("m", needs("n", shown...))})
	}
}

// P19.1: what is not there: no such module, none such in it, another kind, or what is not exported.
func TestMissing(t *testing.T) {
	shown, hidden := haves("n")
	n := full("n")
	absent := []api.Item{typeItem("V", caseOf("A")), typeItem("F", caseOf("A")), constItem("e", "num"), constItem("cc", "num"), constItem("_", "num"), funItem("h", "()num"), funItem("ff", "(num)num"), funItem("t", "()num")}
	otherKind := []api.Item{constItem("f", "num"), constItem("f", "(num)num"), constItem("g", "(bytes)num"), funItem("c", "()num"), funItem("c", "(num)num"), funItem("d", "()bytes")}
	for _, item := range slices.Concat(shown, hidden, absent, otherKind) {
		for _, importer := range []string{"m", "o"} {
			m := made(importer, needs("n", item))
			wantRefused(t, "no module", []object.Object{m}, api.ErrMissing, wrong(importer, "n", item.Name))
			wantRefused(t, "another module", []object.Object{m, full("nn"), full("l")}, api.ErrMissing, wrong(importer, "n", item.Name))
			wantRefused(t, "a module of none", []object.Object{m, made("n")}, api.ErrMissing, wrong(importer, "n", item.Name))
		}
	}
	for _, item := range slices.Concat(hidden, absent, otherKind) {
		for _, importer := range []string{"m", "o"} {
			m := made(importer, needs("n", item))
			wantRefused(t, told(item), []object.Object{m, n}, api.ErrMissing, wrong(importer, "n", item.Name))
			had := full(importer)
			needs("n", item)(&had)
			wantRefused(t, "had by the importer: "+told(item), []object.Object{had, n}, api.ErrMissing, wrong(importer, "n", item.Name))
		}
	}
	for _, item := range slices.Concat(absent, otherKind) {
		own := full("n")
		needs("n", item)(&own)
		wantRefused(t, "own "+told(item), []object.Object{own}, api.ErrMissing, wrong("n", "n", item.Name))
		wantRefused(t, "own "+told(item), []object.Object{own, made("m", needs("n", shown...))}, api.ErrMissing, wrong("n", "n", item.Name))
	}
}

// unlike are items of the names and kinds of those that are given, with something turned.
func unlike(module string) []api.Item {
	return []api.Item{
		typeItem("T", caseOf("A", "num", module+".U")), typeItem("T", caseOf("B"), caseOf("A", "num", module+".U")), typeItem("T", caseOf("A", "num", module+".U"), caseOf("B"), caseOf("C")),
		typeItem("T", caseOf("A", "num", module+".U"), caseOf("C")), typeItem("T", caseOf("A", "num"), caseOf("B")), typeItem("T", caseOf("A", module+".U", "num"), caseOf("B")), typeItem("T", caseOf("A", "num", module+".U"), caseOf("B", "num")), typeItem("T", caseOf("A", "num", "m.U"), caseOf("B")),
		constItem("c", "bytes"), constItem("c", "[num]"), constItem("c", "()num"),
		funItem("f", "()num"), funItem("f", "(num)bytes"), funItem("f", "(num,num)num"), funItem("f", "(bytes)num"), funItem("f", "(n.U)num"),
	}
}

// unlikeHidden are likewise of what is not exported.
func unlikeHidden() []api.Item {
	return []api.Item{typeItem("U", caseOf("B")), typeItem("U", caseOf("A", "num")), typeItem("U", caseOf("A"), caseOf("B")), constItem("d", "num"), funItem("g", "(num)num"), funItem("g", "()num")}
}

// P19.1: what is there, but unlike. Of what is not exported, only the own is there.
func TestSignature(t *testing.T) {
	shown, _ := haves("n")
	for _, item := range unlike("n") {
		for _, importer := range []string{"m", "o"} {
			wantRefused(t, told(item), []object.Object{full("n"), made(importer, needs("n", item))}, api.ErrSignature, wrong(importer, "n", item.Name))
			wantRefused(t, told(item), []object.Object{full("n"), made(importer, needs("n", item)), made("a", needs("n", shown...))}, api.ErrSignature, wrong(importer, "n", item.Name))
		}
	}
	for _, item := range unlikeHidden() {
		wantRefused(t, told(item), []object.Object{full("n"), made("m", needs("n", item))}, api.ErrMissing, wrong("m", "n", item.Name))
	}
	for _, item := range slices.Concat(unlike("n"), unlikeHidden()) {
		own := full("n")
		needs("n", item)(&own)
		wantRefused(t, "own "+told(item), []object.Object{own}, api.ErrSignature, wrong("n", "n", item.Name))
	}
}

// P19.1: functions of one's own without a name are there, whatever others have.
func TestUnnamed(t *testing.T) {
	m := made("m", funs("", "f", ""), needs("m", funItem("", "0"), funItem("", "2"), funItem("f", "()num")))
	wantLinked(t, "unnamed", []object.Object{m})
	wantLinked(t, "unnamed", []object.Object{m, made("a", funs("", "f")), made("z", funs("f", ""), needs("z", funItem("", "1")))})
	needs("m", funItem("g", "()num"))(&m)
	wantRefused(t, "beside unnamed ones", []object.Object{m}, api.ErrMissing, wrong("m", "m", "g"))
}

// anOrder is a symbol that is wrong, and who asks for it.
type anOrder struct {
	importer, module string
	item             api.Item
}

// family are the importers of these, in order of bytes turned round, beside those that are asked and there.
func family(l []anOrder, there ...object.Object) []object.Object {
	out := there
	for _, a := range l {
		k := slices.IndexFunc(out, func(o object.Object) bool { return o.Module == a.importer })
		if k < 0 {
			k = 0
			out = append([]object.Object{made(a.importer)}, out...)
		}
		needs(a.module, a.item)(&out[k])
	}
	return out
}

// wantLeast: of these orders, from the least on, the first is told, in whatever order the symbols and the objects stand.
func wantLeast(t *testing.T, why api.Errno, l []anOrder, there ...object.Object) {
	t.Helper()
	for from := range l {
		for some := range orders(l[from:]) {
			wantRefusedOnce(t, family(some, slices.Clone(there)...), why, wrong(l[from].importer, l[from].module, l[from].item.Name))
		}
	}
}

// wantRefusedOnce: in the order in which they stand, and turned round.
func wantRefusedOnce(t *testing.T, l []object.Object, why api.Errno, w link.Wrong) {
	t.Helper()
	wantRight(t, l)
	for range 2 {
		if got, want := linked(l), (answer{why: why, wrong: w}); told(got) != told(want) {
			t.Errorf("%.300s: %.300s, want %s", told(l), told(got), told(want))
		}
		slices.Reverse(l)
	}
}

// P19.1: of several the least Importer, then the least Module, then the least Name.
func TestLeast(t *testing.T) {
	x, y := funItem("x", "()num"), funItem("y", "()num")
	for _, l := range [][]anOrder{
		{{"a", "n", x}, {"a", "n", y}, {"b", "n", x}, {"b", "n", y}, {"c", "n", x}},
		{{"a", "o", y}, {"b", "n", y}, {"b", "o", x}, {"c", "l", x}},
		{{"p", "n", y}, {"p", "o", x}, {"q", "l", x}, {"q", "n", x}},
		{{"a", "n", x}, {"aa", "l", x}, {"ab", "l", x}, {"b", "k", x}},
		{{"a", "n", y}, {"a", "na", x}, {"a", "o", x}},
		{{"a1", "n", x}, {"a_", "n", x}, {"aa", "n", x}},
		{{"a", "n1", x}, {"a", "n_", x}, {"a", "na", x}},
		{{"a", "n", funItem("_", "()num")}, {"a", "n", x}, {"a", "n", funItem("x1", "()num")}, {"a", "n", funItem("xA", "()num")}, {"a", "n", funItem("x_", "()num")}, {"a", "n", funItem("xa", "()num")}},
		{{"a", "n", typeItem("Z", caseOf("A"))}, {"a", "n", constItem("x", "num")}, {"a", "n", y}, {"a", "o", typeItem("A", caseOf("A"))}},
		{{"b", "b", y}, {"b", "c", x}, {"c", "c", x}, {"c", "d", x}},
		{{"b", "a", y}, {"b", "b", x}, {"b", "c", x}},
	} {
		wantLeast(t, api.ErrMissing, l)
		wantLeast(t, api.ErrMissing, l, shows("n", "z"), shows("o"), made("l", funs("x", "y")))
	}
}

// P19.1: likewise of what is unlike.
func TestLeastSignature(t *testing.T) {
	there := []object.Object{shows("n", "x", "y"), shows("o", "x", "y"), made("l", types(typeItem("T", caseOf("A"))), exports("T"))}
	x, y, typ := funItem("x", "()bytes"), funItem("y", "()bytes"), typeItem("T", caseOf("B"))
	for _, l := range [][]anOrder{
		{{"a", "n", x}, {"a", "n", y}, {"b", "n", x}, {"b", "n", y}, {"c", "n", x}},
		{{"a", "o", y}, {"b", "n", y}, {"b", "o", x}, {"c", "l", typ}},
		{{"p", "l", typ}, {"p", "n", y}, {"p", "o", x}, {"q", "l", typ}},
		{{"a", "n", y}, {"aa", "n", x}, {"o", "l", typ}, {"o", "o", y}, {"z", "n", x}},
		{{"n", "l", typ}, {"n", "n", x}, {"n", "n", y}, {"o", "l", typ}},
	} {
		wantLeast(t, api.ErrSignature, l, there...)
	}
}

// P19.1: two refusals at once, wherever they stand.
func TestOrderOfRefusals(t *testing.T) {
	a := needing("a")
	twice, ring := []object.Object{made("z"), made("z")}, []object.Object{needing("x", "y"), needing("y", "x")}
	missing := func(importer string) []object.Object { return []object.Object{needing(importer, "nobody")} }
	unlike := func(importer string) []object.Object {
		return []object.Object{a, made(importer, needs("a", funItem("f", "()bytes")))}
	}
	wantRefused(t, "taken, ring", slices.Concat(twice, ring), api.ErrTaken, link.Wrong{Module: "z"})
	wantRefused(t, "taken, missing", slices.Concat(twice, missing("b")), api.ErrTaken, link.Wrong{Module: "z"})
	wantRefused(t, "taken, unlike", slices.Concat(twice, unlike("b")), api.ErrTaken, link.Wrong{Module: "z"})
	wantRefused(t, "taken, all", slices.Concat(twice, ring, missing("b"), unlike("c")), api.ErrTaken, link.Wrong{Module: "z"})
	wantRefused(t, "ring, missing", slices.Concat(ring, missing("b")), api.ErrCycle, link.Wrong{})
	wantRefused(t, "ring, unlike", slices.Concat(ring, unlike("b")), api.ErrCycle, link.Wrong{})
	wantRefused(t, "missing, unlike", slices.Concat(missing("b"), unlike("c")), api.ErrMissing, wrong("b", "nobody", "f"))
	wantRefused(t, "unlike, missing", slices.Concat(missing("c"), unlike("b")), api.ErrMissing, wrong("c", "nobody", "f"))
	wantRefused(t, "unlike, missing, of one", []object.Object{a, made("b", needs("a", funItem("f", "()bytes"), funItem("g", "()num")))}, api.ErrMissing, wrong("b", "a", "g"))
	wantRefused(t, "unlike, another kind, of one", []object.Object{a, made("b", needs("a", funItem("f", "()bytes"), constItem("f", "num")))}, api.ErrMissing, wrong("b", "a", "f"))
	wantRefused(t, "right, another kind, of one", []object.Object{a, made("b", needs("a", funItem("f", "()num"), constItem("f", "num")))}, api.ErrMissing, wrong("b", "a", "f"))
	wantRefused(t, "own unlike, missing", append(missing("z"), made("b", funs("f"), needs("b", funItem("f", "()bytes")))), api.ErrMissing, wrong("z", "nobody", "f"))
	wantRefused(t, "own unlike, unlike", append(unlike("c"), made("b", funs("f"), needs("b", funItem("f", "()bytes")))), api.ErrSignature, wrong("b", "b", "f"))
}

// P19.1: needs are asked for, whether code uses them or not; verify is asked nothing.
func TestUnused(t *testing.T) {
	used := made("m", fun("f", "\x0b\x00\x00\x0f"), needs("n", funItem("f", "()num"), funItem("g", "()num")), reloc(0, 1, 0))
	wantRefused(t, "unused", []object.Object{used, shows("n", "f")}, api.ErrMissing, wrong("m", "n", "g"))
	wantLinked(t, "unused", []object.Object{used, shows("n", "f", "g")})
	wantLinked(t, "what verify would refuse", []object.Object{made("m", global("c", "bytes", 0), fun("", "any bytes", "x.Y"), types(typeItem("T", caseOf("A", "o.Nobody"))), exports("T", "c"))})
}
