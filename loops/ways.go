package loops

import (
	"slices"

	"fettle/api"
	"fettle/dom"
	"fettle/graph"
)

// ways are how a function's blocks that are reached lead to one another.
type ways struct {
	order []int // layer 5's
	next  [][]int
	ahead [][]int // the blocks that lead to each, rising
	// Each block has a number; those of all that it dominates go from its own on,
	// up to the end, which isn't counted. (So that asking takes one step, without
	// a truth of each two blocks.) Both are -1 of blocks that aren't reached.
	number, end []int
}

// waysOf are a function's.
func waysOf(f api.Func) ways {
	w := ways{order: graph.Order(f), next: graph.Next(f)}
	w.number, w.end = numbers(w.order, dom.Nearest(f))
	w.ahead = make([][]int, len(w.next))
	for from, tos := range w.next {
		if w.number[from] < 0 {
			continue
		}
		for _, to := range tos {
			w.ahead[to] = append(w.ahead[to], from)
		}
	}
	return w
}

// numbers are those by which it is told what dominates what. In the order each
// block comes behind all that dominate it.
func numbers(order, nearest []int) (number, end []int) {
	number = slices.Repeat([]int{-1}, len(nearest))
	end = slices.Clone(number)
	many := make([]int, len(nearest)) // how many each dominates
	for _, b := range slices.Backward(order) {
		many[b]++
		if nearest[b] >= 0 {
			many[nearest[b]] += many[b]
		}
	}
	free := make([]int, len(nearest)) // of each block the first number of those under it that none has yet
	for _, b := range order {
		if by := nearest[b]; by >= 0 {
			number[b] = free[by]
			free[by] += many[b]
		} else {
			number[b] = 0 // block 0
		}
		free[b] = number[b] + 1
		end[b] = number[b] + many[b]
	}
	return number, end
}

// dominates tells whether a block dominates another one.
func (w ways) dominates(b, other int) bool {
	return w.number[b] <= w.number[other] && w.number[other] < w.end[b]
}

// entries are the blocks from which a head's loop is entered: of those ahead of
// it the ones that it doesn't dominate.
func (w ways) entries(head int) []int {
	var entries []int
	for _, b := range w.ahead[head] {
		if !w.dominates(head, b) {
			entries = append(entries, b)
		}
	}
	return entries
}
