package mean

import "slices"

// row is a list that is not changed: a piece, or two rows one behind the other, of which neither is much higher than the other. So what is put together or cut shares what it is of, and a program that makes long ones at every step needs neither time nor room for their lengths. The empty one is nil.
type row[T any] struct {
	size, height int
	piece        []T
	left, right  *row[T] // nil, if it is a piece
}

func rowOf[T any](piece []T) *row[T] {
	if len(piece) == 0 {
		return nil
	}
	return &row[T]{size: len(piece), piece: piece}
}

func (r *row[T]) length() int {
	if r == nil {
		return 0
	}
	return r.size
}

// pair is a row of two that are about as high.
func pair[T any](a, b *row[T]) *row[T] {
	return &row[T]{size: a.size + b.size, height: 1 + max(a.height, b.height), left: a, right: b}
}

// join is a and b behind it, whatever their heights are.
func join[T any](a, b *row[T]) *row[T] {
	switch {
	case a == nil:
		return b
	case b == nil:
		return a
	case a.height > b.height+1:
		return level(a.left, join(a.right, b))
	case b.height > a.height+1:
		return level(join(a, b.left), b.right)
	}
	return pair(a, b)
}

// level is a and b behind it, one of which may be higher than the other by two: then it is parted anew.
func level[T any](a, b *row[T]) *row[T] {
	switch {
	case a.height > b.height+1 && a.left.height >= a.right.height:
		return pair(a.left, pair(a.right, b))
	case a.height > b.height+1:
		return pair(pair(a.left, a.right.left), pair(a.right.right, b))
	case b.height > a.height+1 && b.right.height >= b.left.height:
		return pair(pair(a, b.left), b.right)
	case b.height > a.height+1:
		return pair(pair(a, b.left.left), pair(b.left.right, b.right))
	}
	return pair(a, b)
}

func (r *row[T]) at(k int) T {
	for r.left != nil {
		if k < r.left.size {
			r = r.left
		} else {
			r, k = r.right, k-r.left.size
		}
	}
	return r.piece[k]
}

func (r *row[T]) cut(from, to int) *row[T] {
	switch {
	case from == to:
		return nil
	case from == 0 && to == r.size:
		return r
	case r.left == nil:
		return rowOf(r.piece[from:to])
	}
	half := r.left.size
	return join(r.left.cut(min(from, half), min(to, half)), r.right.cut(max(from, half)-half, max(to, half)-half))
}

// flat is what stands in the row, in a list of its own.
func (r *row[T]) flat() []T { return r.addTo(slices.Grow([]T(nil), r.length())) }

func (r *row[T]) addTo(l []T) []T {
	switch {
	case r == nil:
		return l
	case r.left == nil:
		return append(l, r.piece...)
	}
	return r.right.addTo(r.left.addTo(l))
}
