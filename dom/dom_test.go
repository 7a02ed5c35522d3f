package dom_test

import (
	"math"
	"testing"

	"fettle/api"
	"fettle/sample"
)

// nearestIs holds that these are a function's nearest blocks, and its
// frontiers; and that Dominates and Under tell the same as the nearest ones.
func nearestIs(t *testing.T, what string, f api.Func, nearest []int, frontier ...[]int) {
	t.Helper()
	want := answers{nearest: nearest, frontier: frontier}
	for b := range nearest {
		row := make([]bool, len(nearest))
		var under []int
		for i, by := range nearest {
			if by == b {
				under = append(under, i)
			}
			row[i] = goesUpTo(nearest, i, b)
		}
		want.dominates = append(want.dominates, row)
		want.under = append(want.under, under)
	}
	is(t, what, f, want)
}

// goesUpTo tells whether from a block on, by the nearest ones, one comes to
// another one, and to block 0.
func goesUpTo(nearest []int, from, to int) bool {
	by := false
	for ; from >= 0; from = nearest[from] {
		by = by || from == to
		if from == 0 {
			return by
		}
	}
	return false
}

// P6.1, P6.2: the chapter's example.
func TestExample(t *testing.T) {
	is(t, "example", ways([]int{1, 2}, []int{3}, []int{3}, nil), answers{
		nearest: []int{-1, 0, 0, 0},
		dominates: [][]bool{
			{true, true, true, true},
			{false, true, false, false},
			{false, false, true, false},
			{false, false, false, true},
		},
		frontier: [][]int{nil, {3}, {3}, nil},
		under:    [][]int{{1, 2, 3}, nil, nil, nil},
	})
}

// P6.1, P6.2: of no blocks nothing is told; one block dominates itself.
func TestFewest(t *testing.T) {
	for _, f := range []api.Func{{}, {Blocks: []api.Block{}}, {Params: 3, Regs: sample.Ints(9)}} {
		is(t, "no blocks", f, answers{})
	}
	one := answers{nearest: []int{-1}, dominates: [][]bool{{true}}, frontier: [][]int{nil}, under: [][]int{nil}}
	is(t, "one block", ways(nil), one)
	is(t, "one block that leads nowhere", ways([]int{1, -1}), one)
	one.frontier = [][]int{{0}}
	is(t, "one block that leads to itself", ways([]int{0}), one)
}

// P6.1: blocks that aren't reached dominate none, not even themselves, are
// dominated by none, and have no nearest.
func TestNotReached(t *testing.T) {
	is(t, "beside", ways([]int{2}, []int{1, 2}, nil), answers{
		nearest:   []int{-1, -1, 0},
		dominates: [][]bool{{true, false, true}, {false, false, false}, {false, false, true}},
		frontier:  [][]int{nil, nil, nil},
		under:     [][]int{{2}, nil, nil},
	})
	is(t, "leading to block 0", ways(nil, []int{0, 2}, []int{1}), answers{
		nearest:   []int{-1, -1, -1},
		dominates: [][]bool{{true, false, false}, {false, false, false}, {false, false, false}},
		frontier:  [][]int{nil, nil, nil},
		under:     [][]int{nil, nil, nil},
	})
	nearestIs(t, "a way from a block that isn't reached", ways([]int{1}, []int{3}, []int{3}, nil),
		[]int{-1, 0, -1, 1}, nil, nil, nil, nil)
}

// P6.1, P6.2: a row; ways that part and meet again.
func TestMeeting(t *testing.T) {
	nearestIs(t, "a row", ways([]int{1}, []int{2}, nil), []int{-1, 0, 1}, nil, nil, nil)
	nearestIs(t, "a row downwards", ways([]int{2}, nil, []int{1}), []int{-1, 2, 0}, nil, nil, nil)
	nearestIs(t, "two ways, one longer", ways([]int{1, 3}, []int{2}, []int{3}, nil),
		[]int{-1, 0, 1, 0}, nil, []int{3}, []int{3}, nil)
	nearestIs(t, "two ways turned, block by block", ways([]int{3}, nil, []int{1}, []int{4, 2}, []int{1}),
		[]int{-1, 3, 3, 0, 3}, nil, nil, []int{1}, nil, []int{1})
	nearestIs(t, "two behind one another", ways([]int{1, 2}, []int{3}, []int{3}, []int{4, 5}, []int{6}, []int{6}, nil),
		[]int{-1, 0, 0, 0, 3, 3, 3}, nil, []int{3}, []int{3}, nil, []int{6}, []int{6}, nil)
	nearestIs(t, "one in the other", ways([]int{1, 5}, []int{2, 3}, []int{4}, []int{4}, []int{6}, []int{6}, nil),
		[]int{-1, 0, 1, 1, 1, 0, 0}, nil, []int{6}, []int{4}, []int{4}, []int{6}, []int{6}, nil)
	nearestIs(t, "ways that cross", ways([]int{1, 2}, []int{3, 4}, []int{4, 3}, nil, nil),
		[]int{-1, 0, 0, 0, 0}, nil, []int{3, 4}, []int{3, 4}, nil, nil)
	nearestIs(t, "three ways, each to two", ways([]int{3, 1, 2}, []int{4, 5}, []int{5, 4}, []int{5, 4}, nil, nil),
		[]int{-1, 0, 0, 0, 0, 0}, nil, []int{4, 5}, []int{4, 5}, []int{4, 5}, nil, nil)
}

// P6.1, P6.2: loops: a head is in its own frontier, and in that of what goes
// round with it; so block 0 may be.
func TestLoops(t *testing.T) {
	nearestIs(t, "a loop", sample.Sum(), []int{-1, 0, 1, 1}, nil, []int{1}, []int{1}, nil)
	nearestIs(t, "by itself", ways([]int{1}, []int{1, 2}, nil), []int{-1, 0, 1}, nil, []int{1}, nil)
	nearestIs(t, "back to block 0", ways([]int{1}, []int{0, 2}, nil), []int{-1, 0, 1}, []int{0}, []int{0}, nil)
	nearestIs(t, "back to block 0 from two", ways([]int{1, 2}, []int{0}, []int{0}), []int{-1, 0, 0}, []int{0}, []int{0}, []int{0})
	nearestIs(t, "a loop in a loop", ways([]int{1}, []int{2, 5}, []int{3}, []int{2, 4}, []int{1}, nil),
		[]int{-1, 0, 1, 2, 3, 1}, nil, []int{1}, []int{1, 2}, []int{1, 2}, []int{1}, nil)
	nearestIs(t, "of one block to each ahead", ways([]int{1}, []int{2}, []int{3}, []int{0, 1, 2, 3}),
		[]int{-1, 0, 1, 2}, []int{0}, []int{0, 1}, []int{0, 1, 2}, []int{0, 1, 2, 3})
}

// P6.1, P6.2: what goes round and is entered at two blocks: neither dominates
// the other.
func TestTwoEntries(t *testing.T) {
	nearestIs(t, "two entries", ways([]int{1, 2}, []int{2}, []int{1}), []int{-1, 0, 0}, nil, []int{2}, []int{1})
	nearestIs(t, "two entries, with more between", ways([]int{1, 3}, []int{2}, []int{3}, []int{4}, []int{1}),
		[]int{-1, 0, 1, 0, 3}, nil, []int{3}, []int{3}, []int{1}, []int{1})
	nearestIs(t, "a row both ways, entered at its ends", ways([]int{1, 4}, []int{2}, []int{1, 3}, []int{2, 4}, []int{3}),
		[]int{-1, 0, 0, 0, 0}, nil, []int{2}, []int{1, 3}, []int{2, 4}, []int{3})
	// Some of these have the nearest one of another block, which isn't known as soon.
	nearestIs(t, "Lengauer's and Tarjan's example", ways([]int{1, 2, 3}, []int{4}, []int{1, 4, 5}, []int{6, 7}, []int{12}, []int{8},
		[]int{9}, []int{9, 10}, []int{5, 11}, []int{11}, []int{9}, []int{9, 0}, []int{8}),
		[]int{-1, 0, 0, 0, 0, 0, 3, 3, 0, 0, 7, 0, 4},
		[]int{0}, []int{4}, []int{1, 4, 5}, []int{9}, []int{8}, []int{8}, []int{9}, []int{9},
		[]int{5, 11}, []int{11}, []int{9}, []int{0, 9}, []int{8})
}

// P6.1, P6.2: Tos that are there twice, or are no block's number, and ends of
// any Kind, tell no more than where they lead (layer 5).
func TestOddEnds(t *testing.T) {
	nearestIs(t, "twice", ways([]int{1, 1}, []int{2, 2, 1, 2}, []int{1, 1}), []int{-1, 0, 1}, nil, []int{1}, []int{1})
	nearestIs(t, "no block's number", ways([]int{-1, 2, 3, math.MaxInt}, []int{2, 0}, []int{math.MinInt, 1}),
		[]int{-1, 2, 0}, []int{0}, []int{0, 2}, []int{0, 2})
	for _, kind := range []int{api.TermJump, api.TermBranch, api.TermReturn, 0, 4, -1, math.MaxInt} {
		f := ways([]int{1, 2}, []int{3}, []int{3}, nil)
		for i := range f.Blocks {
			f.Blocks[i].Term.Kind = kind
			f.Blocks[i].Term.Arg = kind
		}
		nearestIs(t, "of any kind", f, []int{-1, 0, 0, 0}, nil, []int{3}, []int{3}, nil)
	}
}

// P6.1, P6.2: as many blocks as there may be.
func TestMostBlocks(t *testing.T) {
	last := api.MaxBlocks - 1
	row, back, fan := [][]int{{1}}, [][]int{{1}}, [][]int{nil}
	rowNearest, fanNearest := []int{-1}, []int{-1}
	rowFrontier, backFrontier, fanFrontier := [][]int{nil}, [][]int{{0}}, [][]int{{0}}
	for i := 1; i <= last; i++ {
		row = append(row, []int{i + 1})
		rowNearest = append(rowNearest, i-1)
		rowFrontier = append(rowFrontier, nil)
		back = append(back, []int{i - 1, i + 1})
		backFrontier = append(backFrontier, []int{i - 1, i})
		fan[0] = append(fan[0], i)
		fan = append(fan, []int{0, i%last + 1})
		fanNearest = append(fanNearest, 0)
		fanFrontier = append(fanFrontier, []int{0, i%last + 1})
	}
	backFrontier[last] = []int{last - 1}
	nearestIs(t, "a row", ways(row...), rowNearest, rowFrontier...)
	nearestIs(t, "a row both ways", ways(back...), rowNearest, backFrontier...)
	nearestIs(t, "all at once, and round", ways(fan...), fanNearest, fanFrontier...)
}
