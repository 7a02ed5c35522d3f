package loops

import "slices"

// nest is which loops are in which: of two that have a block together the one
// is whole in the other.
type nest struct {
	head   []bool // of each block whether it is a loop's
	around []int  // of each block the head of the smallest loop that it is in and isn't the head of; -1, if there is none
	up     []int  // as around, or the head of a greater such loop; of one that is in none as yet the block itself
}

// nest is a function's. Heads are taken backwards in the order, so that the
// loops in a loop are found ahead of it: it then goes from such a loop's head
// on, without going by all its blocks once more.
func (w ways) nest() nest {
	n := nest{head: make([]bool, len(w.ahead)), around: slices.Repeat([]int{-1}, len(w.ahead))}
	for b := range w.ahead {
		n.up = append(n.up, b)
	}
	for _, head := range slices.Backward(w.order) {
		var open []int
		for _, b := range w.ahead[head] {
			if w.dominates(head, b) {
				open = append(open, b)
			}
		}
		n.head[head] = len(open) > 0
		for len(open) > 0 {
			b := n.outmost(open[len(open)-1])
			open = open[:len(open)-1]
			if b != head {
				n.around[b], n.up[b] = head, head
				open = append(open, w.ahead[b]...)
			}
		}
	}
	return n
}

// outmost is the head of the greatest loop, of those that were found, that a
// block is in; itself, if it is in none.
func (n nest) outmost(b int) int {
	out := b
	for n.up[out] != out {
		out = n.up[out]
	}
	// All on the way go there at once from now on, so that no way is gone up twice.
	for n.up[b] != out {
		above := n.up[b]
		n.up[b] = out
		b = above
	}
	return out
}

// inmost is the head of the smallest loop that a block is in; -1, if there is none.
func (n nest) inmost(b int) int {
	if n.head[b] {
		return b
	}
	return n.around[b]
}
