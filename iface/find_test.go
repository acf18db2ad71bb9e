package iface_test

import (
	"fmt"
	"slices"
	"testing"

	"hawser/api"
	"hawser/iface"
)

func wantFound(t *testing.T, i api.Iface, name string, want api.Item) {
	t.Helper()
	if got, ok := iface.Find(i, name); !ok || toldItem(got) != toldItem(want) {
		t.Errorf("Find(%.200s, %q): %s, %v, want %s", told(i), name, toldItem(got), ok, toldItem(want))
	}
}

func wantNotFound(t *testing.T, i api.Iface, name string) {
	t.Helper()
	if got, ok := iface.Find(i, name); ok || toldItem(got) != toldItem(api.Item{}) {
		t.Errorf("Find(%.200s, %q): %s, %v", told(i), name, toldItem(got), ok)
	}
}

func wantBreaks(t *testing.T, old, next api.Iface, used []string, want ...string) {
	t.Helper()
	if got := iface.Breaks(old, next, used); !slices.Equal(got, want) {
		t.Errorf("Breaks(%.200s, %.200s, %.100q): %.100q, want %.100q", told(old), told(next), used, got, want)
	}
	if model := breaksByTexts(old, next, used); !slices.Equal(model, want) {
		t.Errorf("the model of Breaks(%.200s, %.200s, %.100q): %.100q, want %.100q", told(old), told(next), used, model, want)
	}
}

// P7.4: each item is found by its name, and nothing by what is not one's.
func TestFind(t *testing.T) {
	for _, i := range rights() {
		for _, x := range i.Items {
			wantFound(t, i, x.Name, x)
			wantNotFound(t, i, x.Name+"x")
			wantNotFound(t, i, "x"+x.Name)
			wantNotFound(t, i, "m."+x.Name)
		}
		wantNotFound(t, i, "")
		wantNotFound(t, i, "m")
		wantNotFound(t, i, "C") // a case, no item
		wantNotFound(t, i, "Z")
		wantNotFound(t, i, "zz")
		wantNotFound(t, i, "\xff")
	}
}

// P7.4: interfaces that are not Right are looked through too: the first one of a name counts.
func TestFindInAnything(t *testing.T) {
	i := api.Iface{Items: []api.Item{{Kind: 9, Name: "z"}, constItem("b", "x"), {Name: ""}, constItem("a", "num"), constItem("b", "num"), typeItem("a", manyCases(9)...)}}
	for _, x := range i.Items[:4] {
		wantFound(t, i, x.Name, x)
	}
	wantNotFound(t, i, "c")
	i = with(manyConsts(1000)...)
	slices.Reverse(i.Items)
	for _, x := range i.Items {
		wantFound(t, i, x.Name, x)
	}
}

// variants are an item, and all that differ from it in one thing.
func variants() []api.Item {
	return []api.Item{
		typeItem("T", caseOf("A"), caseOf("B", "num", "bytes")),
		{Kind: api.Const, Name: "T", Cases: []api.Case{caseOf("A"), caseOf("B", "num", "bytes")}},
		{Kind: api.Fun, Name: "T", Cases: []api.Case{caseOf("A"), caseOf("B", "num", "bytes")}},
		typeItem("U", caseOf("A"), caseOf("B", "num", "bytes")),
		typeItem("", caseOf("A"), caseOf("B", "num", "bytes")),
		{Kind: api.Type, Name: "T", Type: "num", Cases: []api.Case{caseOf("A"), caseOf("B", "num", "bytes")}},
		typeItem("T"), typeItem("T", caseOf("A")), typeItem("T", caseOf("B", "num", "bytes")),
		typeItem("T", caseOf("B", "num", "bytes"), caseOf("A")),
		typeItem("T", caseOf("A"), caseOf("B", "num", "bytes"), caseOf("C")),
		typeItem("T", caseOf("A"), caseOf("B", "num", "bytes"), caseOf("")),
		typeItem("T", caseOf("C"), caseOf("B", "num", "bytes")), typeItem("T", caseOf("A"), caseOf("C", "num", "bytes")),
		typeItem("T", caseOf("A", "num"), caseOf("B", "num", "bytes")), typeItem("T", caseOf("A", ""), caseOf("B", "num", "bytes")),
		typeItem("T", caseOf("A"), caseOf("B")), typeItem("T", caseOf("A"), caseOf("B", "num")), typeItem("T", caseOf("A"), caseOf("B", "bytes")),
		typeItem("T", caseOf("A"), caseOf("B", "bytes", "num")), typeItem("T", caseOf("A"), caseOf("B", "num", "bytes", "num")),
		typeItem("T", caseOf("A"), caseOf("B", "numbytes")), typeItem("T", caseOf("A"), caseOf("B", "num", "m.T")), typeItem("T", caseOf("A", "num", "bytes"), caseOf("B")),
		constItem("c", "num"), constItem("c", "bytes"), constItem("c", ""), constItem("d", "num"), funItem("c", "num"), funItem("c", "()num"), constItem("c", "()num"), {},
	}
}

// P7.4: an item is the Same as itself, and as no other one.
func TestSame(t *testing.T) {
	again := variants()
	for k, a := range variants() {
		for n, b := range again {
			if iface.Same(a, b) != (k == n) {
				t.Errorf("Same(%s, %s): %v", toldItem(a), toldItem(b), k != n)
			}
		}
	}
}

// P7.4: next has it otherwise in Kind, Type, cases and fields, each alone; or lacks it.
func TestBreaksOneThing(t *testing.T) {
	for k, a := range variants() {
		for n, b := range variants() {
			var want []string
			if k != n {
				want = []string{a.Name}
			}
			wantBreaks(t, with(a), with(b), []string{a.Name}, want...)
			wantBreaks(t, with(a), with(b), []string{a.Name, b.Name, a.Name}, want...)
			wantBreaks(t, with(constItem("0", "num"), a), with(constItem("1", "num"), b, constItem("2", "num")), []string{"1", a.Name, "2"}, want...)
		}
		wantBreaks(t, with(a), with(), []string{a.Name}, a.Name)
		wantBreaks(t, with(), with(a), []string{a.Name})
		wantBreaks(t, with(a), with(a), []string{a.Name})
		wantBreaks(t, with(a), with(), []string{a.Name + "x"})
	}
}

// P7.4: names that are there twice, in any order, that old lacks, that next lacks.
func TestBreaks(t *testing.T) {
	old := ordinary()
	next := ordinary()
	next.Items[0].Cases = next.Items[0].Cases[:2]
	next.Items[3].Type = "num"
	next.Items = append(next.Items[:4], next.Items[6], constItem("new", "num"))
	wantBreaks(t, old, next, nil)
	wantBreaks(t, old, next, []string{"T", "_", "c", "new", "none", "C", ""})
	wantBreaks(t, old, next, []string{"ba", "b", "a", "T", "new", "Ab", "b", "none", "ba", "c", "ba"}, "Ab", "a", "b", "ba")
	wantBreaks(t, old, next, []string{"Ab", "T", "_", "a", "b", "ba", "c"}, "Ab", "a", "b", "ba")
	wantBreaks(t, old, next, []string{"b", "b", "b"}, "b")
	wantBreaks(t, next, old, []string{"ba", "b", "a", "T", "new", "Ab", "new", "none", "c"}, "Ab", "a", "new")
	wantBreaks(t, old, api.Iface{}, []string{"c", "_", "Ab", "x", "a"}, "Ab", "_", "a", "c")
	other := ordinary()
	other.Module = "n"
	wantBreaks(t, old, other, []string{"Ab", "T", "a", "b"})
}

// P7.4: interfaces that are not Right: the first one of a name counts, in both.
func TestBreaksAnything(t *testing.T) {
	one, two := constItem("a", "num"), constItem("a", "bytes")
	wantBreaks(t, with(one, two), with(one), []string{"a"})
	wantBreaks(t, with(one, two), with(two), []string{"a"}, "a")
	wantBreaks(t, with(one), with(two, one), []string{"a"}, "a")
	wantBreaks(t, with(two, one), with(two), []string{"a"})
	wantBreaks(t, with(one, two), with(one, two), []string{"a"})
	wantBreaks(t, with(api.Item{}), with(), []string{""}, "")
	wantBreaks(t, with(api.Item{Kind: 9, Name: "\xff"}, api.Item{Kind: 9, Name: "("}), with(), []string{"\xff", "(", ""}, "(", "\xff")
}

// P7.5: Breaks of one and itself is empty.
func TestBreaksItself(t *testing.T) {
	for _, i := range append(rights(), with(variants()...)) {
		used := []string{"", "none", "T", "c"}
		for _, x := range slices.Backward(i.Items) {
			used = append(used, x.Name, x.Name, x.Name+"x")
		}
		wantBreaks(t, i, i, used)
		wantBreaks(t, i, with(i.Items...), used)
	}
}

// R1: as many items and names as make looking through all for each one too slow.
func TestBreaksMany(t *testing.T) {
	old, next := with(manyConsts(100000)...), with(manyConsts(100000)...)
	var used, want []string
	for k := range old.Items {
		used = append(used, fmt.Sprintf("c%05d", 99999-k), "none", fmt.Sprintf("c%05d", k))
		if k%1000 == 0 {
			next.Items[k].Type = "bytes"
			want = append(want, fmt.Sprintf("c%05d", k))
		}
	}
	if got := iface.Breaks(old, next, used); !slices.Equal(got, want) {
		t.Errorf("%d names, want %d", len(got), len(want))
	}
}
