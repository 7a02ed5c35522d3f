package lower

import (
	"slices"

	"fettle/api"
)

// Moves does moves one by one: P14.2.
func Moves(pairs [][2]int, next int) ([][2]int, []int, error) {
	odd := func(p [2]int) bool { return min(p[0], p[1]) < 0 || max(p[0], p[1]) >= next }
	if slices.ContainsFunc(pairs, odd) || len(byFirst(pairs)) < len(pairs) {
		return nil, nil, api.ErrArg
	}
	done, copied := oneByOne(pairs, next)
	return done, copied, nil
}

// byFirst are the moves by the registers that they move to.
func byFirst(pairs [][2]int) map[int]int {
	moves := make(map[int]int, len(pairs))
	for i, p := range pairs {
		moves[p[0]] = i
	}
	return moves
}

// oneByOne are moves to unlike registers as they are done one by one, and of
// which registers the new ones are copies, next and those behind it.
func oneByOne(pairs [][2]int, next int) ([][2]int, []int) {
	w := workOf(pairs)
	for i := range w.pairs { // ahead of i none is left that is free
		w.doFrom(i, i)
	}
	var copied []int
	for i := range w.pairs {
		if !w.left[i] {
			continue
		}
		// As many registers are moved to as moves are left, and each of them is
		// moved from: so by one move alone, and what is left goes round in rings.
		was := w.pairs[i][1]
		w.moveFrom(i, next+len(copied))
		copied = append(copied, was)
		w.doFrom(w.to[was], len(w.pairs)-1)
	}
	return w.done, copied
}

// work is moves of which some are done.
type work struct {
	pairs [][2]int
	left  []bool
	to    map[int]int // of a register the move to it
	many  map[int]int // of a register how many that are left move from it
	done  [][2]int
}

// workOf is work of which nothing is done.
func workOf(pairs [][2]int) *work {
	w := &work{
		pairs: slices.Clone(pairs),
		left:  slices.Repeat([]bool{true}, len(pairs)),
		to:    byFirst(pairs),
		many:  make(map[int]int, len(pairs)),
	}
	for _, p := range pairs {
		w.many[p[1]]++
	}
	return w
}

// isFree tells whether a move is left, and no other one moves from where it
// moves to.
func (w *work) isFree(i int) bool {
	others := w.many[w.pairs[i][0]]
	if w.pairs[i][0] == w.pairs[i][1] {
		others--
	}
	return w.left[i] && others == 0
}

// doFrom does a move, if it is free and not behind last; then likewise the one
// that may be free now, and so on.
func (w *work) doFrom(i, last int) {
	for is := true; is && i <= last && w.isFree(i); {
		p := w.pairs[i]
		w.done = append(w.done, p)
		w.left[i] = false
		w.many[p[1]]--
		i, is = w.to[p[1]]
	}
}

// moveFrom copies what a move moves from to another register, and lets the move
// move from that.
func (w *work) moveFrom(i, reg int) {
	w.done = append(w.done, [2]int{reg, w.pairs[i][1]})
	w.many[w.pairs[i][1]]--
	w.many[reg]++
	w.pairs[i][1] = reg
}
