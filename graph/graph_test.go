package graph_test

import (
	"fmt"
	"slices"
	"strings"
	"testing"

	"hawser/graph"
)

// nodes are read from their names, each with what it needs behind it: "a b c" needs b and c.
func nodes(l ...string) []graph.Node {
	var out []graph.Node
	for _, s := range l {
		names := strings.Fields(s)
		out = append(out, graph.Node{Name: names[0], Needs: names[1:]})
	}
	return out
}

func toldOrder(l []graph.Node) string {
	names, ok := graph.Order(l)
	return fmt.Sprintf("%q %t", names, ok)
}

func wantOrder(t *testing.T, l []graph.Node, want ...string) {
	t.Helper()
	if got, want := toldOrder(l), fmt.Sprintf("%q true", want); got != want {
		t.Errorf("Order(%.200q): %.300s, want %.300s", l, got, want)
	}
}

func wantNoOrder(t *testing.T, l []graph.Node) {
	t.Helper()
	if got := toldOrder(l); got != "[] false" {
		t.Errorf("Order(%.200q): %.300s, want none", l, got)
	}
}

func wantRing(t *testing.T, l []graph.Node, want ...string) {
	t.Helper()
	if got := graph.Ring(l); !slices.Equal(got, want) {
		t.Errorf("Ring(%.200q): %.300q, want %.300q", l, got, want)
	}
}

func wantAbove(t *testing.T, l []graph.Node, name string, want ...string) {
	t.Helper()
	if got := graph.Above(l, name); !slices.Equal(got, want) {
		t.Errorf("Above(%.200q, %q): %.300q, want %.300q", l, name, got, want)
	}
}

func wantBelow(t *testing.T, l []graph.Node, name string, want ...string) {
	t.Helper()
	if got := graph.Below(l, name); !slices.Equal(got, want) {
		t.Errorf("Below(%.200q, %q): %.300q, want %.300q", l, name, got, want)
	}
}

// The chapter's runs.
func TestRuns(t *testing.T) {
	wantOrder(t, nodes("a b", "b"), "b", "a")
	wantRing(t, nodes("a a", "b"), "a")
	wantAbove(t, nodes("a b", "b"), "b", "a")
}

// The chapter's examples.
func TestExamples(t *testing.T) {
	wantOrder(t, nil)
	wantOrder(t, []graph.Node{})
	for _, l := range [][]graph.Node{nodes("a x", "b a x y"), nodes("a", "b a")} {
		wantOrder(t, l, "a", "b")
		wantRing(t, l)
		wantAbove(t, l, "a", "b")
		wantBelow(t, l, "b", "a")
	}
	wantBelow(t, nodes("a b", "b"), "x")
}

// graphs are ordinary ones: each with what its Order must be ("none", if there is no such order), and its Ring.
func graphs() map[string][2]string {
	return map[string][2]string{
		// alone, in chains, in diamonds
		"": {}, "a": {"a"}, "b, a": {"a b"}, "c, a, b": {"a b c"},
		"a b, b": {"b a"}, "b a, a": {"a b"}, "b, a b": {"b a"},
		"a b, b c, c d, d": {"d c b a"}, "d, c d, b c, a b": {"d c b a"}, "d c, c b, b a, a": {"a b c d"},
		"a b c, b d, c d, d": {"d b c a"}, "d b c, b a, c a, a": {"a b c d"}, "a c b, c d, b d, d": {"d b c a"},
		"a b c, b d, c d, d e f, e g, f g, g": {"g e f d b c a"},
		// several that may come next, at the beginning and behind others
		"a c, b c, c": {"c a b"}, "b c, a c, c": {"c a b"}, "a z, b, z": {"b z a"}, "a d, b, c a, d": {"b d a c"}, "a x y, b x, x, y": {"x b y a"}, "d a, c a, b a, a": {"a b c d"}, "a z, z, m, n m, b n": {"m n b z a"}, "c b, b, a c, d": {"b c a d"}, "e a, a, b e, d": {"a d e b"},
		// needs twice, and of no node
		"a b b, b": {"b a"}, "a b b b, b c c, c": {"c b a"}, "a x": {"a"}, "a x x y, b a x": {"a b"}, "a x, b x": {"a b"}, "b aa A, a": {"a b"}, "a b c b, b": {"b a"},
		// in rings
		"a a": {"none", "a"}, "a a a": {"none", "a"}, "a a, b": {"none", "a"}, "b b, a": {"none", "b"}, "a b, b a": {"none", "a b"}, "a b b, b a a": {"none", "a b"}, "a b, b c, c a": {"none", "a b c"}, "c b, b a, a c": {"none", "a b c"}, "a b, b a a x": {"none", "a b"},
		// several rings, apart, and one that needs another
		"a b, b a, c d, d c": {"none", "a b c d"}, "a b, b a c, c d, d c": {"none", "a b c d"}, "z z, a a": {"none", "a z"}, "z z a, a a": {"none", "a z"}, "e, a c, c a, b d, d b, f": {"none", "a b c d"},
		// rings that share names
		"a b c, b a, c a": {"none", "a b c"}, "a b, b c d, c a, d b": {"none", "a b c d"}, "a b, b a c, c b d, d c": {"none", "a b c d"}, "a a b, b a": {"none", "a b"}, "a b c, b d, c d, d a": {"none", "a b c d"},
		// what hangs on a ring, or has one hanging on it, or stands between two
		"a b, b a, c a": {"none", "a b"}, "a b, b a c, c": {"none", "a b"}, "a b, b a c, c d, d e, e d": {"none", "a b d e"}, "d a, a b, b a c, c, e d, f c": {"none", "a b"}, "a b, b c, c c": {"none", "c"}, "c, b c, a a b": {"none", "a"}, "b a, c b, d c b, a a": {"none", "a"}, "a b c, b d, c d, d e, e d": {"none", "d e"}, "a b c, b e, c d, d b c, e": {"none", "c d"}, "m a z, a a, z z": {"none", "a z"}, "m, a a m, z z m": {"none", "a z"},
	}
}

// graphOf reads one of graphs.
func graphOf(text string) []graph.Node {
	if text == "" {
		return nil
	}
	return nodes(strings.Split(text, ", ")...)
}

// P18.1, P18.2, P18.3: orders and rings.
func TestOrdinary(t *testing.T) {
	for text, want := range graphs() {
		l := graphOf(text)
		if want[0] == "none" {
			wantNoOrder(t, l)
		} else {
			wantOrder(t, l, strings.Fields(want[0])...)
		}
		wantRing(t, l, strings.Fields(want[1])...)
	}
}

// P18.2: who needs a name, and whom it needs: in a ring, beside one, and no node's.
func TestAboveAndBelow(t *testing.T) {
	for text, want := range map[string]map[string][2]string{
		"":                           {"a": {}, "": {}},
		"a":                          {"a": {}, "b": {}},
		"a b, b c, c":                {"a": {"", "b c"}, "b": {"a", "c"}, "c": {"a b", ""}, "d": {}},
		"c b, b a, a":                {"a": {"b c", ""}, "b": {"c", "a"}, "c": {"", "a b"}},
		"a b c, b d, c d, d":         {"a": {"", "b c d"}, "b": {"a", "d"}, "c": {"a", "d"}, "d": {"a b c", ""}},
		"a d, b d, c e, d f, e f, f": {"a": {"", "d f"}, "c": {"", "e f"}, "d": {"a b", "f"}, "e": {"c", "f"}, "f": {"a b c d e", ""}},
		"a b b x, b x c, c":          {"a": {"", "b c"}, "b": {"a", "c"}, "c": {"a b", ""}, "x": {}},
		"z y, y, x z, w y":           {"x": {"", "y z"}, "y": {"w x z", ""}, "z": {"x", "y"}, "w": {"", "y"}},
		"a a, b":                     {"a": {"a", "a"}, "b": {}},
		"a b, b a":                   {"a": {"a b", "a b"}, "b": {"a b", "a b"}, "": {}},
		"a b, b c, c a, d a, c e, e": {"a": {"a b c d", "a b c"}, "d": {"", "a b c"}, "e": {}},
		"d a, a b, b a c, c e, e":    {"a": {"a b d", "a b c e"}, "b": {"a b d", "a b c e"}, "c": {"a b d", "e"}, "d": {"", "a b c e"}, "e": {"a b c d", ""}, "f": {}},
		"a b, b a c, c d, d e, e d":  {"a": {"a b", "a b c d e"}, "b": {"a b", "a b c d e"}, "c": {"a b", "d e"}, "d": {"a b c d e", "d e"}, "e": {"a b c d e", "d e"}},
		"a b c, b a, c a, d, e d c":  {"a": {"a b c e", "a b c"}, "b": {"a b c e", "a b c"}, "c": {"a b c e", "a b c"}, "d": {"e", ""}, "e": {"", "a b c d"}},
	} {
		for name, told := range want {
			wantAbove(t, graphOf(text), name, strings.Fields(told[0])...)
			wantBelow(t, graphOf(text), name, strings.Fields(told[1])...)
		}
	}
}

// Of two nodes of one name the first counts, whatever the others need.
func TestFirstOfName(t *testing.T) {
	wantOrder(t, nodes("a", "a"), "a")
	wantOrder(t, nodes("a", "a a", "b a"), "a", "b")
	wantOrder(t, nodes("a", "a b", "b a"), "a", "b")
	wantNoOrder(t, nodes("a b", "a", "b a"))
	wantNoOrder(t, nodes("a a", "a", "b a"))
	wantOrder(t, nodes("a b", "a c", "b", "c"), "b", "a", "c")
	wantOrder(t, nodes("a c", "a b", "b", "c"), "b", "c", "a")
	wantOrder(t, nodes("b", "a b", "a", "b a", "b b"), "b", "a")
	wantOrder(t, nodes("a b", "b", "a b", "b", "a", "a"), "b", "a")
	wantRing(t, nodes("a", "a a", "b a"))
	wantRing(t, nodes("a a", "a", "b a"), "a")
	wantRing(t, nodes("a b", "b", "b a"))
	wantRing(t, nodes("a b", "b a", "b"), "a", "b")
	l := nodes("a b", "b", "c", "a c", "b c", "c a")
	wantAbove(t, l, "a")
	wantAbove(t, l, "b", "a")
	wantAbove(t, l, "c")
	wantBelow(t, l, "a", "b")
	wantBelow(t, l, "b")
	wantBelow(t, l, "c")
}

// The order is that of bytes, whatever they are; a name may be empty.
func TestNames(t *testing.T) {
	names := []string{"", "\x00", "\x00\x00", "\x00a", " ", "0", "10", "9", "A", "Z", "a", "a b", "a\x00", "a\xff", "aa", "aé", "b", "é", "\U0001F600", "\xff", "\xff\x00", "\xff\xff"}
	slices.SortFunc(names, byBytes)
	all := func(needs ...string) (l []graph.Node) {
		for _, name := range slices.Backward(names) {
			l = append(l, graph.Node{Name: name, Needs: needs})
		}
		return l
	}
	wantOrder(t, all(), names...)
	wantRing(t, all())
	wantRing(t, all(names...), names...)
	for k, name := range names {
		wantAbove(t, all(name), name, names...)
		wantBelow(t, all(name), name, name)
		wantAbove(t, all(name), names[(k+1)%len(names)])
		wantRing(t, all(name), name)
		wantBelow(t, all(names...), name, names...)
		wantBelow(t, all(name+"-", "-"+name, name+"\x00\x00\x00"), name)
	}
	wantOrder(t, []graph.Node{{Name: "", Needs: []string{"a"}}, {Name: "a"}}, "a", "")
	wantOrder(t, []graph.Node{{Name: "a", Needs: []string{""}}, {}}, "", "a")
	wantOrder(t, []graph.Node{{Name: "a", Needs: []string{""}}}, "a")
	wantRing(t, []graph.Node{{Needs: []string{""}}, {Name: "a"}}, "")
	wantAbove(t, []graph.Node{{Name: "a", Needs: []string{""}}, {}}, "", "a")
	wantBelow(t, []graph.Node{{Name: "a", Needs: []string{""}}, {}}, "a", "")
	wantAbove(t, []graph.Node{{Name: "a", Needs: []string{""}}}, "")
}

// permuted calls f with the nodes in all orders.
func permuted(l []graph.Node, f func(l []graph.Node)) {
	if len(l) == 0 {
		f(nil)
	}
	for k := range l {
		permuted(slices.Delete(slices.Clone(l), k, k+1), func(others []graph.Node) { f(append([]graph.Node{l[k]}, others...)) })
	}
}

// answers are all that the calls tell of the nodes and of a name that is no node's.
func answers(l []graph.Node) string {
	told := fmt.Sprintf("%s %q", toldOrder(l), graph.Ring(l))
	for _, name := range append(namesOf(l), "no node") {
		told += fmt.Sprintf(" %q %q %q", name, graph.Above(l, name), graph.Below(l, name))
	}
	return told
}

// namesOf are the nodes' names, each once, in order of bytes.
func namesOf(l []graph.Node) []string {
	var names []string
	for _, n := range l {
		names = append(names, n.Name)
	}
	slices.SortFunc(names, byBytes)
	return slices.Compact(names)
}

// Where no two nodes have one name, nothing hangs on the order in which they stand, nor on that of their needs.
func TestInEveryOrder(t *testing.T) {
	for text := range graphs() {
		l := graphOf(text)
		want := answers(l)
		turned := slices.Clone(l)
		for k, n := range l {
			turned[k].Needs = slices.Clone(n.Needs)
			slices.Reverse(turned[k].Needs)
		}
		for _, l := range [][]graph.Node{l[:min(len(l), 6)], turned[:min(len(l), 6)]} {
			rest := graphOf(text)[len(l):]
			permuted(l, func(l []graph.Node) {
				if got := answers(append(l, rest...)); got != want {
					t.Fatalf("%q: %s, want %s", l, got, want)
				}
			})
		}
	}
}
