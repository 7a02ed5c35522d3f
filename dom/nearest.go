package dom

// nearest is of each place the nearest one; -1 of the first. It goes the way of
// Lengauer and Tarjan, which takes hardly more steps than blocks have edges,
// where comparing what dominates the ones ahead, over and over, might take as
// many as there are blocks for each edge.
//
// A place's early one is the first from which a way leads to it that else goes by
// later places alone. It, or one before it, is the nearest: which of these, the
// early ones between it and the place tell.
func (t travels) nearest() []int {
	g := newGrove(len(t.blocks))
	nearest := make([]int, len(t.blocks))
	waiting := make([][]int, len(t.blocks)) // of each place those whose early one it is
	for place := len(t.blocks) - 1; place > 0; place-- {
		for _, ahead := range t.ahead[place] {
			g.early[place] = min(g.early[place], g.early[g.best(ahead)])
		}
		waiting[g.early[place]] = append(waiting[g.early[place]], place)
		from := t.from[place]
		g.above[place] = from
		for _, w := range waiting[from] {
			nearest[w] = from
			if best := g.best(w); g.early[best] < from {
				nearest[w] = best // w's nearest is that one's, which isn't known yet
			}
		}
		waiting[from] = nil
	}
	for place, by := range nearest {
		if by != g.early[place] {
			nearest[place] = nearest[by]
		}
	}
	if len(nearest) > 0 {
		nearest[0] = -1
	}
	return nearest
}

// grove is places that hang below those whence they were come to, as far as
// these were looked at.
type grove struct {
	early []int // the place itself, till an earlier one is found
	above []int // -1 of one that hangs below none
	least []int // which has the earliest early one, from the place up to above, which isn't counted
}

// newGrove is so many places, none below another one.
func newGrove(places int) grove {
	g := grove{early: make([]int, places), above: make([]int, places), least: make([]int, places)}
	for p := range places {
		g.early[p], g.above[p], g.least[p] = p, -1, p
	}
	return g
}

// best is which has the earliest early one, of a place and those above it, but
// the topmost; a place that hangs below none itself.
func (g grove) best(place int) int {
	var way []int
	for p := place; g.above[p] >= 0 && g.above[g.above[p]] >= 0; p = g.above[p] {
		way = append(way, p)
	}
	// Each is hung below the topmost at once, so that no way is gone up twice.
	for i := len(way) - 1; i >= 0; i-- {
		p := way[i]
		above := g.above[p]
		if g.early[g.least[above]] < g.early[g.least[p]] {
			g.least[p] = g.least[above]
		}
		g.above[p] = g.above[above]
	}
	return g.least[place]
}
