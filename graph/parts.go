package graph

import "slices"

// search goes from need to need for parts: two nodes are of one part just if they need one another, perhaps through others. It keeps itself where it has come to, since chains may be far longer than calls can be deep.
type search struct {
	walk
	open  []int // who is being gone through: each needs the next
	loose []int // who was met and has no part yet, as they were met
	order []int // who has a part: part by part, each behind those that it needs
	met   []int // of each, its place in loose, from 1 on; 0: it was not met
	least []int // of each, the first place in loose of those that it was seen to need, or its own
	part  []int // of each, its part; -1: none yet
}

// parts tells of each node its part, and all nodes, part by part, each part behind those that it needs.
func (w web) parts() (parts, order []int) {
	many := len(w.names)
	s := search{walk: walkOf(w), met: make([]int, many), least: make([]int, many), part: slices.Repeat([]int{-1}, many)}
	for k := range w.names {
		if s.met[k] == 0 {
			s.meet(k)
		}
		for len(s.open) > 0 {
			s.step()
		}
	}
	return s.part, s.order
}

func (s *search) meet(k int) {
	s.open, s.loose = append(s.open, k), append(s.loose, k)
	s.met[k], s.least[k] = len(s.loose), len(s.loose)
}

func (s *search) step() {
	k := s.open[len(s.open)-1]
	n, ok := s.next(k)
	switch {
	case !ok:
		s.leave(k)
	case s.met[n] == 0:
		s.meet(n)
	case s.part[n] < 0:
		s.least[k] = min(s.least[k], s.met[n])
	}
}

// leave ends with k. If it needs nobody of loose that stands ahead of it, those from it on are its part, which bears its number.
func (s *search) leave(k int) {
	s.open = s.open[:len(s.open)-1]
	if s.least[k] < s.met[k] {
		user := s.open[len(s.open)-1]
		s.least[user] = min(s.least[user], s.least[k])
		return
	}
	from := s.met[k] - 1
	for _, n := range s.loose[from:] {
		s.part[n] = k
	}
	s.order = append(s.order, s.loose[from:]...)
	s.loose = s.loose[:from]
}
