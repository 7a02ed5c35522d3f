package calls

import (
	"math"
	"slices"
)

// search goes from function to function by their calls, and finds rings as
// Tarjan does, in as many steps as there are calls. It keeps its way in a list
// of its own: Go's own stack wouldn't hold a way of millions of functions.
//
// A function is open from when it is come to till its ring is known.
type search struct {
	left  [][]int // of each function those of its calls that weren't looked at yet
	come  []int   // of each function as how many-eth, from 1 on, it was come to; 0: not yet
	first []int   // of each open function the least come of the open ones that it is known to come to; above all of one whose ring is known
	way   []int   // functions, each called by the one ahead of it
	open  []int   // in the order in which they were come to
	many  int     // that were come to
	rings [][]int
}

// ringsOf are all rings, each behind all others that it calls, their functions
// rising.
func ringsOf(calls [][]int) [][]int {
	s := &search{left: slices.Clone(calls), come: make([]int, len(calls)), first: make([]int, len(calls))}
	for f := range len(calls) {
		if s.come[f] == 0 {
			s.enter(f)
			s.goOn()
		}
	}
	return s.rings
}

// enter comes to a function.
func (s *search) enter(f int) {
	s.many++
	s.come[f], s.first[f] = s.many, s.many
	s.way = append(s.way, f)
	s.open = append(s.open, f)
}

// goOn goes on till the way is gone back to its beginning.
func (s *search) goOn() {
	for len(s.way) > 0 {
		f := s.way[len(s.way)-1]
		if len(s.left[f]) == 0 {
			s.goBack()
			continue
		}
		called := s.left[f][0]
		s.left[f] = s.left[f][1:]
		if s.come[called] == 0 {
			s.enter(called)
		} else {
			s.first[f] = min(s.first[f], s.first[called])
		}
	}
}

// goBack leaves the last function of the way. If it comes to no open one that
// was come to ahead of it, its ring are all that are open from it on.
func (s *search) goBack() {
	f := s.way[len(s.way)-1]
	s.way = s.way[:len(s.way)-1]
	if s.first[f] == s.come[f] {
		s.ringFrom(f)
	}
	if len(s.way) > 0 {
		caller := s.way[len(s.way)-1]
		s.first[caller] = min(s.first[caller], s.first[f])
	}
}

// ringFrom makes a ring of all that are open from a function on.
func (s *search) ringFrom(f int) {
	at := len(s.open) - 1
	for s.open[at] != f {
		at--
	}
	ring := slices.Clone(s.open[at:])
	s.open = s.open[:at]
	slices.Sort(ring)
	for _, one := range ring {
		s.first[one] = math.MaxInt
	}
	s.rings = append(s.rings, ring)
}
