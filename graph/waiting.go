package graph

// waiting is a heap of nodes, the least one first.
type waiting []int

func (w waiting) Len() int           { return len(w) }
func (w waiting) Less(a, b int) bool { return w[a] < w[b] }
func (w waiting) Swap(a, b int)      { w[a], w[b] = w[b], w[a] }
func (w *waiting) Push(k any)        { *w = append(*w, k.(int)) }

func (w *waiting) Pop() any {
	last := len(*w) - 1
	k := (*w)[last]
	*w = (*w)[:last]
	return k
}
