package graph

import (
	"iter"
	"slices"
	"strings"
)

// web holds the nodes that count, by numbers that go by their names' order of bytes: so the least number is that of the least name. Needs are looked up by their names whenever they are asked for, since nodes may share long lists of them.
type web struct {
	names   []string
	numbers map[string]int
	needs   [][]string // of each node
}

func webOf(l []Node) web {
	numbers := make(map[string]int, len(l))
	var nodes []Node
	for _, n := range l {
		if _, there := numbers[n.Name]; !there {
			numbers[n.Name] = len(nodes)
			nodes = append(nodes, n)
		}
	}
	slices.SortFunc(nodes, func(a, b Node) int { return strings.Compare(a.Name, b.Name) })
	w := web{make([]string, len(nodes)), numbers, make([][]string, len(nodes))}
	for k, n := range nodes {
		w.names[k], w.needs[k], w.numbers[n.Name] = n.Name, n.Needs, k
	}
	return w
}

// needed goes through whom k needs.
func (w web) needed(k int) iter.Seq[int] {
	return func(yield func(int) bool) {
		for _, need := range w.needs[k] {
			if n, ok := w.numbers[need]; ok && !yield(n) {
				return
			}
		}
	}
}

// told is new texts of these nodes' names.
func (w web) told(nodes []int) []string {
	var out []string
	for _, k := range nodes {
		out = append(out, strings.Clone(w.names[k]))
	}
	return out
}

// walk goes through the needs of many nodes by turns.
type walk struct {
	web
	left [][]string // of each, which needs are still to be gone through
}

func walkOf(w web) walk { return walk{w, slices.Clone(w.needs)} }

// next is whom k needs next; false, if nobody is left.
func (w walk) next(k int) (int, bool) {
	for len(w.left[k]) > 0 {
		need := w.left[k][0]
		w.left[k] = w.left[k][1:]
		if n, ok := w.numbers[need]; ok {
			return n, true
		}
	}
	return 0, false
}
