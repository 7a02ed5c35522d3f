package dom

// travels are a way from block 0 through all blocks that are reached: each is
// gone to as soon as one leads to it, before what else that one leads to. A
// block's place is how many were come to ahead of it. All but blocks tells of
// places.
type travels struct {
	blocks []int   // at each place
	from   []int   // whence it was come to; -1 of the first
	ahead  [][]int // all that lead to it
}

// edge leads from a place to a block.
type edge struct{ from, to int }

// travel goes through the blocks that are reached.
func travel(next [][]int) travels {
	var t travels
	if len(next) == 0 {
		return t
	}
	places := make([]int, len(next))
	for b := range places {
		places[b] = -1
	}
	// A list of its own rather than Go's stack: a way may be millions of blocks long.
	open := []edge{{from: -1, to: 0}}
	for len(open) > 0 {
		e := open[len(open)-1]
		open = open[:len(open)-1]
		if places[e.to] < 0 {
			places[e.to] = t.come(e)
			for _, to := range next[e.to] {
				open = append(open, edge{from: places[e.to], to: to})
			}
		}
		if e.from >= 0 {
			to := places[e.to]
			t.ahead[to] = append(t.ahead[to], e.from)
		}
	}
	return t
}

// come gives the block that an edge leads to a place.
func (t *travels) come(e edge) int {
	place := len(t.blocks)
	t.blocks = append(t.blocks, e.to)
	t.from = append(t.from, e.from)
	t.ahead = append(t.ahead, nil)
	return place
}
