package mean

import (
	"math/bits"
	"math/rand"
	"slices"
	"testing"
)

// wantRow: r is what l is, and no higher than it need be.
func wantRow(t *testing.T, r *row[int], l []int) {
	t.Helper()
	if r.length() != len(l) || !slices.Equal(r.flat(), l) {
		t.Fatalf("%v, want %v", r.flat(), l)
	}
	for k, x := range l {
		if r.at(k) != x {
			t.Fatalf("at %d: %d, want %d", k, r.at(k), x)
		}
	}
	wantLevel(t, r)
}

// wantLevel: the heights of two that stand one behind the other differ by one at most, and none is empty.
func wantLevel(t *testing.T, r *row[int]) {
	t.Helper()
	switch {
	case r == nil:
		return
	case r.left == nil:
		if r.height != 0 || r.size == 0 || r.size != len(r.piece) || r.right != nil {
			t.Fatalf("a piece %v", r)
		}
		return
	}
	a, b := r.left, r.right
	if r.height != 1+max(a.height, b.height) || max(a.height, b.height)-min(a.height, b.height) > 1 || r.size != a.size+b.size {
		t.Fatalf("height %d of %d, %d; size %d of %d, %d", r.height, a.height, b.height, r.size, a.size, b.size)
	}
	wantLevel(t, a)
	wantLevel(t, b)
}

// Rows that are put together one by one, from either side.
func TestRowsOfSingleOnes(t *testing.T) {
	var behind, ahead *row[int]
	var l []int
	for k := range 2048 {
		behind, ahead = join(behind, rowOf([]int{k})), join(rowOf([]int{-k}), ahead)
		l = append(l, k)
		if most := 2 * bits.Len(uint(k)); behind.height > most || ahead.height > most {
			t.Fatalf("%d of %d, %d", k, behind.height, ahead.height)
		}
	}
	wantRow(t, behind, l)
	slices.Reverse(l)
	for k := range l {
		l[k] = -l[k]
	}
	wantRow(t, ahead, l)
}

// Rows of every pair of lengths, and all that is cut of them.
func TestShortRows(t *testing.T) {
	wantRow(t, nil, nil)
	wantRow(t, rowOf([]int{}), nil)
	for left := range 8 {
		for right := range 8 {
			var a, b *row[int]
			var l []int
			for k := range left {
				a, l = join(a, rowOf([]int{k})), append(l, k)
			}
			for k := range right {
				b, l = join(b, rowOf([]int{k + 10})), append(l, k+10)
			}
			both := join(a, b)
			wantRow(t, both, l)
			for to := range len(l) + 1 {
				for from := range to + 1 {
					wantRow(t, both.cut(from, to), l[from:to])
				}
			}
		}
	}
}

// Rows by chance, of others that stay as they are.
func TestRowsByChance(t *testing.T) {
	for k := range 200 {
		c := rand.New(rand.NewSource(int64(k)))
		rows, lists := []*row[int]{nil}, [][]int{nil}
		for range 100 {
			r, l := rows[c.Intn(len(rows))], []int(nil)
			switch c.Intn(4) {
			case 0:
				for range c.Intn(5) {
					l = append(l, c.Int())
				}
				r = rowOf(slices.Clone(l))
			case 1:
				at := c.Intn(len(rows))
				to := c.Intn(len(lists[at]) + 1)
				from := c.Intn(to + 1)
				r, l = rows[at].cut(from, to), lists[at][from:to]
			default:
				a, b := c.Intn(len(rows)), c.Intn(len(rows))
				if len(lists[a])+len(lists[b]) > 2048 {
					continue
				}
				r, l = join(rows[a], rows[b]), slices.Concat(lists[a], lists[b])
			}
			rows, lists = append(rows, r), append(lists, l)
		}
		for n := range rows {
			wantRow(t, rows[n], lists[n])
		}
	}
}

// What flat answers is a list of its own, and what a row was made of is not written into.
func TestFlatIsNew(t *testing.T) {
	piece := []int{1, 2, 3, 4}
	r := rowOf(piece[:3])
	l := r.flat()
	l[0] = 9
	l = append(r.flat(), 9)
	l = append(join(r, r).flat(), 9)
	l[2] = 9
	if !slices.Equal(piece, []int{1, 2, 3, 4}) {
		t.Error(piece)
	}
}
