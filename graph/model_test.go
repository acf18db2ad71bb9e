package graph_test

import (
	"bytes"
	"fmt"
	"math/rand"
	"slices"
	"strings"
	"testing"

	"hawser/graph"
)

func byBytes(a, b string) int { return bytes.Compare([]byte(a), []byte(b)) }

// first is the node of a name that counts.
func first(l []graph.Node, name string) (graph.Node, bool) {
	for _, n := range l {
		if n.Name == name {
			return n, true
		}
	}
	return graph.Node{}, false
}

// needing tells of each name all that it needs, perhaps through others: what is told of one is added to whoever needs it, until nothing is left to add.
func needing(l []graph.Node) map[string]map[string]bool {
	all := map[string]map[string]bool{}
	for _, name := range namesOf(l) {
		all[name] = map[string]bool{}
	}
	for added := true; added; {
		added = false
		for name, needs := range all {
			ahead := len(needs)
			n, _ := first(l, name)
			for _, need := range n.Needs {
				if through, ok := all[need]; ok {
					needs[need] = true
					for other := range through {
						needs[other] = true
					}
				}
			}
			added = added || len(needs) > ahead
		}
	}
	return all
}

// ordered are the names for which f holds, in order of bytes.
func ordered(names []string, f func(name string) bool) []string {
	return slices.DeleteFunc(slices.Clone(names), func(name string) bool { return !f(name) })
}

// orderByModel takes the least name of which all needs were taken, again and again.
func orderByModel(l []graph.Node, all map[string]map[string]bool) ([]string, bool) {
	left := namesOf(l)
	var out []string
	for len(left) > 0 {
		at := slices.IndexFunc(left, func(name string) bool {
			return !slices.ContainsFunc(left, func(other string) bool { return all[name][other] })
		})
		if at < 0 {
			return nil, false
		}
		out = append(out, left[at])
		left = slices.Delete(left, at, at+1)
	}
	return out, true
}

// wantAsByModel holds each call against the model, for each name of the nodes and of their needs.
func wantAsByModel(t *testing.T, l []graph.Node) (ok bool) {
	t.Helper()
	all, names := needing(l), namesOf(l)
	order, ok := orderByModel(l, all)
	if ok {
		wantOrder(t, l, order...)
	} else {
		wantNoOrder(t, l)
	}
	ring := ordered(names, func(name string) bool { return all[name][name] })
	wantRing(t, l, ring...)
	if ok != (len(ring) == 0) {
		t.Errorf("P18.3: %q: %t, %q", l, ok, ring)
	}
	asked := append([]string{"", "no node"}, names...)
	for _, n := range l {
		asked = append(asked, n.Needs...)
	}
	slices.Sort(asked)
	for _, name := range slices.Compact(asked) {
		wantAbove(t, l, name, ordered(names, func(other string) bool { return all[other][name] })...)
		wantBelow(t, l, name, ordered(names, func(other string) bool { return all[name][other] })...)
	}
	return ok
}

// graphsOf calls f with all graphs of so many nodes.
func graphsOf(many int, f func(l []graph.Node)) {
	names := []string{"a", "b", "c", "d"}[:many]
	for bits := range 1 << (many * many) {
		var l []graph.Node
		for k, name := range names {
			n := graph.Node{Name: name}
			for at, need := range names {
				if bits>>(k*many+at)&1 == 1 {
					n.Needs = append(n.Needs, need)
				}
			}
			l = append(l, n)
		}
		f(l)
	}
}

// P18.1 to P18.3: all graphs of few nodes, of up to three in every order.
func TestAllSmall(t *testing.T) {
	orders := 0
	for many := range 5 {
		graphsOf(many, func(l []graph.Node) {
			if t.Failed() {
				return
			}
			if wantAsByModel(t, l) {
				orders++
			}
			if many < 4 {
				permuted(l, func(l []graph.Node) { wantAsByModel(t, l) })
			}
		})
	}
	if orders != 1+1+3+25+543 { // graphs without rings, of 0 to 4 nodes
		t.Errorf("%d graphs have an order", orders)
	}
}

// behind: each name stands behind what it needs.
func behind(l []graph.Node, order []string) bool {
	for k, name := range order {
		n, _ := first(l, name)
		if slices.ContainsFunc(n.Needs, func(need string) bool { return slices.Contains(order[k:], need) }) {
			return false
		}
	}
	return true
}

// P18.1: of all orders in which each name stands behind what it needs it is the one that has, at the first place where two are unlike, the lesser name; and there is none, if none is told.
func TestLeastOfAllOrders(t *testing.T) {
	graphsOf(4, func(l []graph.Node) {
		want := "[] false"
		permuted(l, func(p []graph.Node) {
			var order []string
			for _, n := range p {
				order = append(order, n.Name)
			}
			if want == "[] false" && behind(l, order) {
				want = fmt.Sprintf("%q true", order)
			}
		})
		if got := toldOrder(l); got != want {
			t.Fatalf("%q: %s, want %s", l, got, want)
		}
	})
}

// byChance are nodes with names of these, some of them twice.
func byChance(r *rand.Rand, names []string, most, needs int) []graph.Node {
	var l []graph.Node
	for range r.Intn(most + 1) {
		n := graph.Node{Name: names[r.Intn(len(names))]}
		for range r.Intn(needs + 1) {
			n.Needs = append(n.Needs, names[r.Intn(len(names))])
		}
		l = append(l, n)
	}
	return l
}

// P18.1 to P18.3: graphs by chance, with nodes of one name, needs that are there twice, needs of no node, and names of whatever bytes.
func TestByChance(t *testing.T) {
	kinds := [][]string{strings.Fields("a b c d e f g h"), strings.Fields("k j i h g f e d c b a aa ab A B \xff é \x00 a\x00 z10 z9 z1"), {"", "a", "\x00", "b"}}
	orders := 0
	for k := range 12000 {
		r := rand.New(rand.NewSource(int64(k)))
		if wantAsByModel(t, byChance(r, kinds[k%3], 2+k%17, 1+k%4)) {
			orders++
		}
		if t.Failed() {
			return
		}
	}
	if orders < 2000 || orders > 10000 {
		t.Errorf("%d of 12000 have an order", orders)
	}
}

// upward are nodes by chance that need later ones alone, so that there is no ring.
func upward(r *rand.Rand, many, needs int) []graph.Node {
	names := r.Perm(many)
	var l []graph.Node
	for k, name := range names {
		n := graph.Node{Name: fmt.Sprint("n", name)}
		for range r.Intn(needs + 1) {
			n.Needs = append(n.Needs, fmt.Sprint("n", names[k+r.Intn(many-k)]))
		}
		n.Needs = slices.DeleteFunc(n.Needs, func(need string) bool { return need == n.Name })
		l = append(l, n)
	}
	r.Shuffle(len(l), func(a, b int) { l[a], l[b] = l[b], l[a] })
	return l
}

// P18.1 to P18.3: greater graphs that have an order, and the same with one need more, that may close a ring.
func TestGreaterByChance(t *testing.T) {
	rings := 0
	for k := range 300 {
		r := rand.New(rand.NewSource(int64(k)))
		l := upward(r, 10+r.Intn(30), 1+k%4)
		if !wantAsByModel(t, l) {
			t.Fatalf("%q has no order by the model", l)
		}
		at := r.Intn(len(l))
		l[at].Needs = append(l[at].Needs, l[r.Intn(len(l))].Name)
		if !wantAsByModel(t, l) {
			rings++
		}
		if t.Failed() {
			return
		}
	}
	if rings < 20 || rings > 280 {
		t.Errorf("%d of 300 have a ring", rings)
	}
}

func FuzzGraph(f *testing.F) {
	for text := range graphs() {
		f.Add(text)
	}
	f.Add("a b, a, , b a b,  x,a\xff \xff, \xff a")
	f.Fuzz(func(t *testing.T, text string) {
		var l []graph.Node
		for _, s := range strings.Split(text, ",") {
			names := strings.Split(s, " ")
			l = append(l, graph.Node{Name: names[0], Needs: names[1:]})
		}
		if len(text) < 200 {
			wantAsByModel(t, l)
		}
	})
}
