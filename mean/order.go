package mean

import (
	"container/heap"
	"slices"
	"strings"

	"hawser/api"
)

// Order: see the chapter. A name that several modules have is told once, and the imports of all of them count.
func Order(l []api.Module) ([]string, bool) {
	names := eachName(l)
	lacks, importers := needs(l, names)
	var ready numbers
	for k, n := range lacks {
		if n == 0 {
			heap.Push(&ready, k)
		}
	}
	var out []string
	for len(ready) > 0 {
		next := heap.Pop(&ready).(int)
		out = append(out, strings.Clone(names[next]))
		for _, k := range importers[next] {
			lacks[k]--
			if lacks[k] == 0 {
				heap.Push(&ready, k)
			}
		}
	}
	if len(out) < len(names) {
		return nil, false
	}
	return out, true
}

// eachName is the modules' names, each once, in order of bytes: so the least number is that of the least name.
func eachName(l []api.Module) []string {
	names := make([]string, len(l))
	for k, m := range l {
		names[k] = m.Name
	}
	slices.Sort(names)
	return slices.Compact(names)
}

// needs tells, by the number of a name, how many imports it waits for, and who waits for it, as often as they import from it.
func needs(l []api.Module, names []string) (lacks []int, importers [][]int) {
	lacks, importers = make([]int, len(names)), make([][]int, len(names))
	for _, m := range l {
		to, _ := slices.BinarySearch(names, m.Name)
		for _, one := range m.Imports {
			if from, ok := slices.BinarySearch(names, one.From); ok {
				lacks[to]++
				importers[from] = append(importers[from], to)
			}
		}
	}
	return lacks, importers
}

// numbers is a heap, the least one first.
type numbers []int

func (l numbers) Len() int           { return len(l) }
func (l numbers) Less(a, b int) bool { return l[a] < l[b] }
func (l numbers) Swap(a, b int)      { l[a], l[b] = l[b], l[a] }
func (l *numbers) Push(n any)        { *l = append(*l, n.(int)) }

func (l *numbers) Pop() any {
	last := len(*l) - 1
	n := (*l)[last]
	*l = (*l)[:last]
	return n
}
