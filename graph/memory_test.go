package graph_test

import (
	"fmt"
	"slices"
	"strings"
	"testing"
	"unsafe"

	"hawser/graph"
)

// roomy is l with room behind it, that holds what x says.
func roomy[E any](l []E, x E) []E { return append(slices.Clip(l), x, x)[:len(l)] }

// roomyNodes has room behind each list, that would change each answer.
func roomyNodes(l []graph.Node) []graph.Node {
	out := slices.Clone(l)
	for k, n := range l {
		out[k].Needs = roomy(n.Needs, n.Name)
	}
	return roomy(out, graph.Node{Name: "spare", Needs: []string{"spare"}})
}

// whole tells all of l, spare room included.
func whole(l []graph.Node) string {
	told := fmt.Sprintf("%d of %q", len(l), l[:cap(l)])
	for _, n := range l {
		told += fmt.Sprintf(" %d of %q", len(n.Needs), n.Needs[:cap(n.Needs)])
	}
	return told
}

// scribble writes over a list, spare room included.
func scribble[E any](l []E, x E) {
	for k := range l[:cap(l)] {
		l[:cap(l)][k] = x
	}
}

// calls are all of them, Above and Below of a name in a ring, of one in none, and of one that is no node's.
func calls() map[string]func(l []graph.Node) []string {
	all := map[string]func(l []graph.Node) []string{
		"Order": func(l []graph.Node) []string { order, _ := graph.Order(l); return order },
		"Ring":  graph.Ring,
	}
	for _, name := range []string{"a", "b", "c", "", "no node"} {
		all["Above "+name] = func(l []graph.Node) []string { return graph.Above(l, name) }
		all["Below "+name] = func(l []graph.Node) []string { return graph.Below(l, name) }
	}
	return all
}

// handed are graphs with and without a ring, with nodes of one name and needs that are no node's.
func handed() [][]graph.Node {
	l := [][]graph.Node{nodes("c a b x", "b a a", "a x", "a b", "d c", "c"), nodes("c a", "b a b", "a b x", "a", "d c", "c c"), {{}, {Needs: []string{"", "a"}}, {Name: "a", Needs: []string{""}}}}
	for text := range graphs() {
		l = append(l, graphOf(text))
	}
	return l
}

// R2, R5: what was handed in stands as it was behind each call, and what is behind the lists' ends is not read.
func TestChangesNothing(t *testing.T) {
	for _, plain := range handed() {
		l := roomyNodes(plain)
		ahead := whole(l)
		for name, call := range calls() {
			if got, want := call(l), call(plain); !slices.Equal(got, want) {
				t.Errorf("%s of %q with spare room: %q, want %q", name, plain, got, want)
			}
			if now := whole(l); now != ahead {
				t.Errorf("%s: %s, was %s", name, now, ahead)
			}
		}
	}
}

// R2: what is answered may be changed, spare room included: what was handed in and other answers stand as they were.
func TestAnswersMayBeChanged(t *testing.T) {
	for _, plain := range handed() {
		l := roomyNodes(plain)
		ahead, told := whole(l), answers(l)
		for name, call := range calls() {
			kept := call(l)
			keptAhead := fmt.Sprintf("%q", kept[:cap(kept)])
			scribble(call(l), "scribbled")
			if now := fmt.Sprintf("%q", kept[:cap(kept)]); now != keptAhead {
				t.Errorf("%s: %s, was %s", name, now, keptAhead)
			}
		}
		if now := whole(l); now != ahead {
			t.Errorf("%s, was %s", now, ahead)
		}
		if now := answers(l); now != told {
			t.Errorf("%s, was %s", now, told)
		}
	}
}

// R2: what was handed in may be changed: answers stand as they were, and later calls see the change.
func TestKeepsNothing(t *testing.T) {
	for _, plain := range handed() {
		for name, call := range calls() {
			l := roomyNodes(plain)
			for k, n := range l {
				l[k].Needs = slices.Clone(n.Needs)
			}
			kept := call(l)
			ahead := fmt.Sprintf("%q", kept[:cap(kept)])
			for _, n := range l {
				scribble(n.Needs, "z")
			}
			scribble(l, graph.Node{Name: "y", Needs: []string{"y"}})
			if now := fmt.Sprintf("%q", kept[:cap(kept)]); now != ahead {
				t.Errorf("%s: %s, was %s", name, now, ahead)
			}
			if len(l) > 0 {
				wantNoOrder(t, l)
				wantRing(t, l, "y")
				wantAbove(t, l, "a")
				wantBelow(t, l, "y", "y")
			}
		}
	}
}

// R2: no text of what is handed in is answered, nor do two answers share one.
func TestTextsAreNew(t *testing.T) {
	long := strings.Repeat("long", 100)
	names := []string{long, long[1:], long[2:], "a"}
	loose := []graph.Node{{Name: names[0], Needs: names[1:]}, {Name: names[1], Needs: names[2:]}, {Name: names[2]}, {Name: names[3]}}
	ring := []graph.Node{{Name: names[0], Needs: names}, {Name: names[1], Needs: names}, {Name: names[2], Needs: names}, {Name: names[3]}}
	told := 0
	for _, l := range [][]graph.Node{loose, ring} {
		order, _ := graph.Order(l)
		all := [][]string{order, graph.Ring(l)}
		for _, name := range names {
			all = append(all, graph.Above(l, name), graph.Below(l, name))
		}
		given := slices.Clone(names)
		for _, answer := range all {
			wantNoPieces(t, answer, given)
			given = append(given, answer...)
			told += len(answer)
		}
	}
	if told < 30 {
		t.Errorf("only %d texts were told", told)
	}
}

// wantNoPieces: no text of an answer is a piece of one of these.
func wantNoPieces(t *testing.T, answer, given []string) {
	t.Helper()
	for _, piece := range answer {
		for _, text := range given {
			from, at := uintptr(unsafe.Pointer(unsafe.StringData(text))), uintptr(unsafe.Pointer(unsafe.StringData(piece)))
			if piece != "" && from <= at && at < from+uintptr(len(text)) {
				t.Errorf("%.20q is a piece of what was there ahead of it", piece)
			}
		}
	}
}

// R4: the same call again answers the same, whatever was asked in between.
func TestSameAgain(t *testing.T) {
	var wants []string
	for _, l := range handed()[:3] {
		wants = append(wants, answers(l))
	}
	for range 100 {
		for k, l := range handed()[:3] {
			if got := answers(l); got != wants[k] {
				t.Fatalf("again: %s, was %s", got, wants[k])
			}
		}
	}
}

// R4: nil and empty lists mean the same. R3: beside a false, and of nothing, lists are empty.
func TestEmptyLists(t *testing.T) {
	for _, l := range [][]graph.Node{nil, {}, make([]graph.Node, 0, 3)} {
		for name, call := range calls() {
			if got := call(l); len(got) != 0 {
				t.Errorf("%s of none: %q", name, got)
			}
		}
		wantOrder(t, l)
	}
	for _, none := range [][]string{nil, {}, make([]string, 0, 3)} {
		wantOrder(t, []graph.Node{{Name: "b", Needs: none}, {Name: "a", Needs: none}}, "a", "b")
		wantBelow(t, []graph.Node{{Name: "b", Needs: none}, {Name: "a", Needs: []string{"b"}}}, "b")
		wantNoOrder(t, []graph.Node{{Name: "a", Needs: []string{"a"}}, {Name: "b", Needs: none}})
	}
}
