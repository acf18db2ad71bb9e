package link_test

import (
	"fmt"
	"runtime/debug"
	"slices"
	"strings"
	"testing"

	"hawser/api"
	"hawser/link"
	"hawser/object"
)

func toldRoots(l []object.Object, roots []string) string {
	got, why, name := link.Roots(l, roots)
	return fmt.Sprintf("%+v %v %s", got, why, name)
}

// wantRoots: those objects, in whatever order the roots stand.
func wantRoots(t testing.TB, l []object.Object, roots string, want ...object.Object) {
	t.Helper()
	for some := range orders(strings.Fields(roots)) {
		if got, want := toldRoots(l, some), fmt.Sprintf("%+v %v ", want, api.OK); got != want {
			t.Errorf("Roots(.., %s): %.600s, want %.600s", some, got, want)
		}
	}
}

func wantNoRoots(t testing.TB, l []object.Object, roots, name string) {
	t.Helper()
	for some := range orders(strings.Fields(roots)) {
		if got, want := toldRoots(l, some), fmt.Sprintf("[] %v %s", api.ErrNone, name); got != want {
			t.Errorf("Roots(.., %s): %.600s, want %s", some, got, want)
		}
	}
}

// P19.3: the roots and what they need, in order of names.
func TestRoots(t *testing.T) {
	a, b, c, d, e := needing("a"), needing("b", "a"), needing("c", "b"), needing("d", "b", "c", "a"), needing("e", "e")
	for l := range orders([]object.Object{a, b, c, d, e}) {
		wantRoots(t, l, "")
		wantRoots(t, l, "a", a)
		wantRoots(t, l, "b", a, b)
		wantRoots(t, l, "c", a, b, c)
		wantRoots(t, l, "d", a, b, c, d)
		wantRoots(t, l, "e", e)
		wantRoots(t, l, "a e", a, e)
		wantRoots(t, l, "a b", a, b)
		wantRoots(t, l, "b e", a, b, e)
		wantRoots(t, l, "a c", a, b, c)
		wantRoots(t, l, "a a", a)
		wantRoots(t, l, "c a c", a, b, c)
		wantRoots(t, l, "a b c d e", a, b, c, d, e)
	}
	for l := range orders([]object.Object{needing("a1", "_"), needing("a_", "aA"), needing("aA"), needing("a"), needing("_", "a")}) {
		wantRoots(t, l, "a1 a_", needing("_", "a"), needing("a"), needing("a1", "_"), needing("aA"), needing("a_", "aA"))
	}
}

// P19.3: rings are none that Roots asks for, nor what the objects show one another.
func TestRootsOfRings(t *testing.T) {
	a, b, c, d := needing("a", "b"), needing("b", "c"), needing("c", "a"), made("d", needs("b", typeItem("T", caseOf("A")), funItem("f", "()bytes")))
	for l := range orders([]object.Object{a, b, c, d}) {
		wantRoots(t, l, "a", a, b, c)
		wantRoots(t, l, "c", a, b, c)
		wantRoots(t, l, "d", a, b, c, d)
		wantRoots(t, l, "d a", a, b, c, d)
	}
}

// P19.3: the least name that is needed or a root and no object's; what nobody needs is not asked for.
func TestRootsMissing(t *testing.T) {
	a, b, c, d := needing("a"), needing("b", "x", "a"), needing("c", "y", "b", "w"), needing("d", "c")
	for l := range orders([]object.Object{a, b, c, d}) {
		wantRoots(t, l, "a", a)
		wantNoRoots(t, l, "b", "x")
		wantNoRoots(t, l, "b a", "x")
		wantNoRoots(t, l, "c", "w")
		wantNoRoots(t, l, "d", "w")
		wantNoRoots(t, l, "d b a", "w")
		wantNoRoots(t, l, "z", "z")
		wantNoRoots(t, l, "z a", "z")
		wantNoRoots(t, l, "z z a", "z")
		wantNoRoots(t, l, "z b", "x")
		wantNoRoots(t, l, "v d", "v")
		wantNoRoots(t, l, "A a b", "A")
		wantNoRoots(t, l, "aa z_ d", "aa")
		wantNoRoots(t, l, "w1 z", "w1")
		wantNoRoots(t, l, "a. a_", "a.")
	}
	wantNoRoots(t, nil, "a", "a")
	wantNoRoots(t, nil, "b a c", "a")
	for _, roots := range [][]string{{""}, {"a", ""}, {"", "z"}} {
		if got := toldRoots([]object.Object{a}, roots); got != fmt.Sprintf("[] %v ", api.ErrNone) {
			t.Errorf("the empty name: %s", got)
		}
	}
}

// P19.3: of objects of one name the first counts, its needs too.
func TestRootsOfOneName(t *testing.T) {
	a, b, c := needing("a"), needing("b", "a"), needing("c", "b")
	other := made("b", funs("other"), needs("x", constItem("c", "num")))
	wantRoots(t, []object.Object{b, other, a, c}, "c", a, b, c)
	wantRoots(t, []object.Object{a, c, b, other, other}, "c", a, b, c)
	wantRoots(t, []object.Object{a, a, a}, "a", a)
	wantRoots(t, []object.Object{shows("a", "first"), a, a}, "a", shows("a", "first"))
	wantNoRoots(t, []object.Object{other, b, a, c}, "c", "x")
	wantNoRoots(t, []object.Object{a, c, other, b}, "b", "x")
	wantRoots(t, []object.Object{a, c, other, b}, "a", a)
}

// P19.3: all that an object has comes along, of as many modules as there are.
func TestRootsWhole(t *testing.T) {
	l := ordinary()
	wantRoots(t, l, "m", l...)
	wantRoots(t, l, "z", l[1])
	for _, n := range []int{12, 13, 100} {
		l := several(n)
		var roots []string
		for _, o := range l {
			roots = append(roots, o.Module)
		}
		wantRoots(t, l, strings.Join(roots, " "), l...)
	}
}

// R1: the document sets no bound to how many objects Roots takes, nor to how many stand behind one another.
func TestRootsOfMany(t *testing.T) {
	defer debug.SetMaxStack(debug.SetMaxStack(1 << 16))
	const n = 1 << 17
	name := func(k int) string { return fmt.Sprintf("m%07d", k) }
	l := []object.Object{made(name(0))}
	for k := 1; k < n; k++ {
		l = append(l, made(name(k), needs(name(k-1), constItem("c", "num"))))
	}
	slices.Reverse(l)
	got, why, missing := link.Roots(l, []string{name(n - 1)})
	if len(got) != n || why != api.OK || missing != "" {
		t.Fatalf("%d objects, %v, %s", len(got), why, missing)
	}
	for k, o := range got {
		if o.Module != name(k) {
			t.Fatalf("%s at %d", o.Module, k)
		}
	}
	got, why, missing = link.Roots(l[:n-1], []string{name(n - 1), name(n - 2), name(7)})
	if len(got) != 0 || why != api.ErrNone || missing != name(0) {
		t.Errorf("%d objects, %v, %s", len(got), why, missing)
	}
	roots := make([]string, n)
	for k := range roots {
		roots[k] = name(k)
	}
	if got, why, _ := link.Roots(l, roots); len(got) != n || why != api.OK {
		t.Errorf("%d objects, %v", len(got), why)
	}
}
