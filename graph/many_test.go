package graph_test

import (
	"fmt"
	"math/rand"
	"runtime"
	"runtime/debug"
	"slices"
	"strings"
	"testing"

	"hawser/graph"
)

const many = 1 << 18

// numbered is a name that stands in order of numbers.
func numbered(k int) string { return fmt.Sprintf("n%07d", k) }

// numberedNames are so many of them, in order.
func numberedNames(n int) []string {
	names := make([]string, n)
	for k := range names {
		names[k] = numbered(k)
	}
	return names
}

// littleStack lets calls within calls fail that go as deep as a chain: such a chain may be as long as the bound allows.
func littleStack(t *testing.T) {
	ahead := debug.SetMaxStack(1 << 22)
	t.Cleanup(func() { debug.SetMaxStack(ahead) })
}

// wantChain holds each call against what is to be told of a chain, which is handed in, in the order in which each needs the next.
func wantChain(t *testing.T, l []graph.Node, chain []string) {
	t.Helper()
	inOrder := slices.Sorted(slices.Values(chain))
	back := slices.Clone(chain)
	slices.Reverse(back)
	if order, ok := graph.Order(l); !ok || !slices.Equal(order, back) {
		t.Error("Order:", len(order), ok)
	}
	if ring := graph.Ring(l); len(ring) != 0 {
		t.Error("Ring:", len(ring))
	}
	top, end := chain[0], chain[len(chain)-1]
	if got := graph.Above(l, end); len(got) != len(l)-1 || !slices.IsSorted(got) || slices.Contains(got, end) {
		t.Error("Above the end:", len(got))
	}
	if got := graph.Below(l, top); len(got) != len(l)-1 || !slices.IsSorted(got) || slices.Contains(got, top) {
		t.Error("Below the top:", len(got))
	}
	if got := len(graph.Above(l, top)) + len(graph.Below(l, end)); got != 0 {
		t.Error("Above the top and Below the end:", got)
	}
	closed := append(slices.Clone(l), graph.Node{Name: "x", Needs: []string{top}})
	at := slices.IndexFunc(closed, func(n graph.Node) bool { return n.Name == end })
	closed[at].Needs = []string{top}
	if ring := graph.Ring(closed); !slices.Equal(ring, inOrder) {
		t.Error("Ring of a ring:", len(ring))
	}
	if order, ok := graph.Order(closed); ok || len(order) != 0 {
		t.Error("Order of a ring:", len(order), ok)
	}
	if got := graph.Below(closed, "x"); !slices.Equal(got, inOrder) {
		t.Error("Below what hangs on a ring:", len(got))
	}
	if got := graph.Above(closed, top); !slices.Equal(got, append(inOrder, "x")) {
		t.Error("Above a ring:", len(got))
	}
}

// R1: a chain, whichever way its names go and its nodes stand.
func TestLongChain(t *testing.T) {
	littleStack(t)
	up := numberedNames(many)
	down := slices.Clone(up)
	slices.Reverse(down)
	mixed := slices.Clone(up)
	r := rand.New(rand.NewSource(1))
	r.Shuffle(many, func(a, b int) { mixed[a], mixed[b] = mixed[b], mixed[a] })
	for _, chain := range [][]string{up, down, mixed} {
		l := make([]graph.Node, many)
		for k, name := range chain {
			l[k].Name, l[k].Needs = name, chain[k+1:min(k+2, many)]
		}
		wantChain(t, l, chain)
		if t.Failed() {
			return
		}
	}
}

// Many nodes that need nothing, or all the same one; and one that needs all.
func TestManyLoose(t *testing.T) {
	names := numberedNames(many)
	var loose []graph.Node
	for _, name := range slices.Backward(names) {
		loose = append(loose, graph.Node{Name: name, Needs: []string{"x"}})
	}
	for _, more := range [][]graph.Node{nil, {{Name: "x"}}, {{Name: "x", Needs: []string{"no node"}}}} {
		l := append(slices.Clone(loose), more...)
		want := names
		if more != nil {
			want = append([]string{"x"}, names...)
			if got := graph.Above(l, "x"); !slices.Equal(got, names) {
				t.Error("Above:", len(got))
			}
		}
		if got, ok := graph.Order(l); !ok || !slices.Equal(got, want) {
			t.Error("Order:", len(got), ok)
		}
		if got := graph.Ring(l); len(got) != 0 {
			t.Error("Ring:", len(got))
		}
	}
	all := append(slices.Clone(loose), graph.Node{Name: "all", Needs: names})
	if got, ok := graph.Order(all); !ok || !slices.Equal(got, append(slices.Clone(names), "all")) {
		t.Error("Order of one that needs all:", len(got), ok)
	}
	if got := graph.Below(all, "all"); !slices.Equal(got, names) {
		t.Error("Below one that needs all:", len(got))
	}
	ring := append(slices.Clone(all), graph.Node{Name: "x", Needs: []string{"all"}})
	if got := graph.Ring(ring); !slices.Equal(got, append(append([]string{"all"}, names...), "x")) {
		t.Error("Ring of many through one:", len(got))
	}
}

// Many rings, each of which needs the next, with one between that is in none.
func TestManyRings(t *testing.T) {
	littleStack(t)
	const rings = many / 4
	var l []graph.Node
	var want []string
	for k := range rings {
		a, b, between, next := numbered(3*k), numbered(3*k+1), numbered(3*k+2), numbered(3*k+3)
		l = append(l, graph.Node{Name: a, Needs: []string{b}}, graph.Node{Name: b, Needs: []string{a, between}}, graph.Node{Name: between, Needs: []string{next}})
		want = append(want, a, b)
	}
	if got := graph.Ring(l); !slices.Equal(got, want) {
		t.Error("Ring:", len(got))
	}
	slices.Reverse(l)
	if got := graph.Ring(l); !slices.Equal(got, want) {
		t.Error("Ring of the nodes turned round:", len(got))
	}
	if got, ok := graph.Order(l); ok || len(got) != 0 {
		t.Error("Order:", len(got), ok)
	}
	if got := graph.Above(l, numbered(3*rings-1)); len(got) != 3*rings-1 {
		t.Error("Above:", len(got))
	}
	if got := graph.Below(l, numbered(2)); len(got) != 3*rings-3 {
		t.Error("Below:", len(got))
	}
}

// Many ways lead from the first diamond to the last: 2 to the power of how many there are.
func TestManyDiamonds(t *testing.T) {
	littleStack(t)
	const diamonds = many / 8
	var l []graph.Node
	for k := range diamonds {
		next := []string{numbered(3*k + 3)}
		l = append(l, graph.Node{Name: numbered(3 * k), Needs: []string{numbered(3*k + 1), numbered(3*k + 2)}}, graph.Node{Name: numbered(3*k + 1), Needs: next}, graph.Node{Name: numbered(3*k + 2), Needs: next})
	}
	names := numberedNames(3 * diamonds)
	var want []string
	for k := range diamonds {
		at := 3 * (diamonds - 1 - k)
		want = append(want, names[at+1], names[at+2], names[at])
	}
	if got, ok := graph.Order(l); !ok || !slices.Equal(got, want) {
		t.Error("Order:", len(got), ok)
	}
	if got := graph.Ring(l); len(got) != 0 {
		t.Error("Ring:", len(got))
	}
	if got := graph.Below(l, names[0]); !slices.Equal(got, names[1:]) {
		t.Error("Below:", len(got))
	}
	if got := graph.Above(l, names[len(names)-1]); !slices.Equal(got, names[:len(names)-2]) {
		t.Error("Above:", len(got))
	}
}

// Many needs: of nodes that need all later ones, or all, themselves too; many nodes of one name; and a need that is there many times.
func TestManyNeeds(t *testing.T) {
	const most = 1000
	names := numberedNames(most)
	back := slices.Clone(names)
	slices.Reverse(back)
	var later, all []graph.Node
	for k, name := range names {
		later = append(later, graph.Node{Name: name, Needs: names[k+1:]})
		all = append(all, graph.Node{Name: name, Needs: names})
	}
	wantOrder(t, later, back...)
	wantRing(t, later)
	wantNoOrder(t, all)
	wantRing(t, all, names...)
	wantAbove(t, all, names[1], names...)
	wantBelow(t, later, names[1], names[2:]...)
	wantOrder(t, append(later, slices.Repeat(all, 100)...), back...)
	often := slices.Repeat([]string{"b", "x"}, many)
	wantOrder(t, []graph.Node{{Name: "a", Needs: often}, {Name: "b"}}, "b", "a")
	wantRing(t, []graph.Node{{Name: "a", Needs: often}, {Name: "b", Needs: []string{"a"}}}, "a", "b")
	wantBelow(t, []graph.Node{{Name: "a", Needs: often}, {Name: "b"}}, "a", "b")
}

// R6: what is looked at may be far more than what lies in memory, if nodes share their needs; so calls need room for the nodes, not for what each needs.
func TestSharedNeeds(t *testing.T) {
	const most = 2000
	names := numberedNames(most)
	var l []graph.Node
	for _, name := range names {
		l = append(l, graph.Node{Name: name, Needs: names})
	}
	var ahead, now runtime.MemStats
	for name, call := range calls() {
		runtime.ReadMemStats(&ahead)
		call(l)
		runtime.ReadMemStats(&now)
		if spent := now.TotalAlloc - ahead.TotalAlloc; spent > most*most {
			t.Errorf("%s: %d bytes", name, spent)
		}
	}
}

// Long names, that are unlike at their ends alone.
func TestLongNames(t *testing.T) {
	long := strings.Repeat("long", 1<<16)
	l := []graph.Node{{Name: long + "b", Needs: []string{long + "a", long}}, {Name: long + "a"}, {Name: long[1:], Needs: []string{long + "c"}}}
	wantOrder(t, l, long+"a", long+"b", long[1:])
	wantRing(t, l)
	wantAbove(t, l, long+"a", long+"b")
	wantBelow(t, l, long+"b", long+"a")
	wantBelow(t, l, long)
}
