package loops_test

import (
	"math"
	"testing"

	"fettle/api"
	"fettle/sample"
)

// P7.1, P7.2: the chapter's example.
func TestExample(t *testing.T) {
	want := answers{loops: []api.Loop{loop(1, []int{0}, 1, 2)}, depth: []int{0, 1, 1, 0}, clean: true}
	is(t, "example", ways([]int{1}, []int{2, 3}, []int{1}, nil), want)
	is(t, "a sum", sample.Sum(), want)
}

// P7.1, P7.2: of no blocks nothing is told, and nothing goes round.
func TestFewest(t *testing.T) {
	for _, f := range []api.Func{{}, {Blocks: []api.Block{}}, {Params: 3, Regs: sample.Ints(9)}} {
		is(t, "no blocks", f, answers{clean: true})
	}
	is(t, "one block", ways(nil), answers{depth: []int{0}, clean: true})
	is(t, "one block that leads nowhere", ways([]int{1, -1}), answers{depth: []int{0}, clean: true})
	is(t, "one block that leads to itself", ways([]int{0}),
		answers{loops: []api.Loop{loop(0, nil, 0)}, depth: []int{1}, clean: true})
}

// P7.1, P7.2: where nothing goes round there are no loops.
func TestNone(t *testing.T) {
	is(t, "a row", ways([]int{1}, []int{2}, nil), answers{depth: []int{0, 0, 0}, clean: true})
	is(t, "a row downwards", ways([]int{2}, nil, []int{1}), answers{depth: []int{0, 0, 0}, clean: true})
	is(t, "two ways", ways([]int{1, 2}, []int{3}, []int{3}, nil), answers{depth: []int{0, 0, 0, 0}, clean: true})
	is(t, "two ways turned", ways([]int{3}, nil, []int{1}, []int{2, 1}), answers{depth: []int{0, 0, 0, 0}, clean: true})
}

// P7.1, P7.2: a head that leads to itself; block 0 as a head, from which none
// enters; several blocks that lead to one head are of one loop.
func TestOne(t *testing.T) {
	is(t, "by itself", ways([]int{1}, []int{1, 2}, nil),
		answers{loops: []api.Loop{loop(1, []int{0}, 1)}, depth: []int{0, 1, 0}, clean: true})
	is(t, "back to block 0", ways([]int{1}, []int{0, 2}, nil),
		answers{loops: []api.Loop{loop(0, nil, 0, 1)}, depth: []int{1, 1, 0}, clean: true})
	is(t, "back from two", ways([]int{1}, []int{2, 3}, []int{1}, []int{1, 4}, nil),
		answers{loops: []api.Loop{loop(1, []int{0}, 1, 2, 3)}, depth: []int{0, 1, 1, 1, 0}, clean: true})
	is(t, "back from one of two ways", ways([]int{1}, []int{2, 3}, []int{4}, []int{4, 5}, []int{1}, nil),
		answers{loops: []api.Loop{loop(1, []int{0}, 1, 2, 3, 4)}, depth: []int{0, 1, 1, 1, 1, 0}, clean: true})
	is(t, "back to itself, and from another one", ways([]int{1}, []int{1, 2}, []int{1}),
		answers{loops: []api.Loop{loop(1, []int{0}, 1, 2)}, depth: []int{0, 1, 1}, clean: true})
	is(t, "what it dominates, but doesn't come back", ways([]int{1}, []int{2, 3}, []int{1, 4}, []int{5}, nil, nil),
		answers{loops: []api.Loop{loop(1, []int{0}, 1, 2)}, depth: []int{0, 1, 1, 0, 0, 0}, clean: true})
	is(t, "numbers that fall", ways([]int{4}, nil, []int{4}, []int{2}, []int{3, 1}),
		answers{loops: []api.Loop{loop(4, []int{0}, 2, 3, 4)}, depth: []int{0, 0, 1, 1, 1}, clean: true})
}

// P7.1: a loop is entered from all blocks ahead of its head that aren't in it,
// whatever else they lead to.
func TestEntries(t *testing.T) {
	is(t, "from two", ways([]int{1, 2}, []int{3}, []int{4, 3}, []int{3, 4}, nil),
		answers{loops: []api.Loop{loop(3, []int{1, 2}, 3)}, depth: []int{0, 0, 0, 1, 0}, clean: true})
	is(t, "from behind and ahead", ways([]int{3, 2}, []int{2, 4}, []int{1}, []int{2}, nil),
		answers{loops: []api.Loop{loop(2, []int{0, 3}, 1, 2)}, depth: []int{0, 1, 1, 0, 0}, clean: true})
	is(t, "from another loop's", ways([]int{1}, []int{1, 2}, []int{2, 3}, nil),
		answers{loops: []api.Loop{loop(1, []int{0}, 1), loop(2, []int{1}, 2)}, depth: []int{0, 1, 1, 0}, clean: true})
}

// P7.1, P7.2: loops in loops; their heads may be each other's.
func TestNested(t *testing.T) {
	is(t, "in another one", ways([]int{1}, []int{2, 5}, []int{3}, []int{2, 4}, []int{1}, nil), answers{
		loops: []api.Loop{loop(1, []int{0}, 1, 2, 3, 4), loop(2, []int{1}, 2, 3)},
		depth: []int{0, 1, 2, 2, 1, 0}, clean: true})
	is(t, "two in one", ways([]int{1}, []int{1, 2}, []int{2, 0}), answers{
		loops: []api.Loop{loop(0, nil, 0, 1, 2), loop(1, []int{0}, 1), loop(2, []int{1}, 2)},
		depth: []int{1, 2, 2}, clean: true})
	is(t, "of one block to each ahead", ways([]int{1}, []int{2}, []int{3}, []int{0, 1, 2, 3}), answers{
		loops: []api.Loop{loop(0, nil, 0, 1, 2, 3), loop(1, []int{0}, 1, 2, 3), loop(2, []int{1}, 2, 3), loop(3, []int{2}, 3)},
		depth: []int{1, 2, 3, 4}, clean: true})
	is(t, "the inner one's head is lower", ways([]int{3}, []int{1, 2}, []int{3, 4}, []int{1}, nil), answers{
		loops: []api.Loop{loop(1, []int{3}, 1), loop(3, []int{0}, 1, 2, 3)},
		depth: []int{0, 2, 1, 1, 0}, clean: true})
	is(t, "entered from two of the outer one", ways([]int{1}, []int{2, 3}, []int{3}, []int{4}, []int{3, 1}), answers{
		loops: []api.Loop{loop(1, []int{0}, 1, 2, 3, 4), loop(3, []int{1, 2}, 3, 4)},
		depth: []int{0, 1, 1, 2, 2}, clean: true})
	is(t, "a row both ways", ways([]int{1}, []int{0, 2}, []int{1, 3}, []int{2}), answers{
		loops: []api.Loop{loop(0, nil, 0, 1, 2, 3), loop(1, []int{0}, 1, 2, 3), loop(2, []int{1}, 2, 3)},
		depth: []int{1, 2, 3, 3}, clean: true})
}

// P7.1, P7.2: what goes round and is entered at two blocks is no loop, and
// isn't clean; it may be within a loop, have one in it, or stand beside one.
func TestTwoEntries(t *testing.T) {
	is(t, "two entries", ways([]int{1, 2}, []int{2}, []int{1}), answers{depth: []int{0, 0, 0}})
	is(t, "a way into its midst", ways([]int{1, 2}, []int{2}, []int{3}, []int{1, 4}, nil), answers{depth: []int{0, 0, 0, 0, 0}})
	is(t, "in a loop", ways([]int{1}, []int{2, 3}, []int{3}, []int{2, 1}),
		answers{loops: []api.Loop{loop(1, []int{0}, 1, 2, 3)}, depth: []int{0, 1, 1, 1}})
	is(t, "a loop in it", ways([]int{1, 2}, []int{3}, []int{1}, []int{3, 2}),
		answers{loops: []api.Loop{loop(3, []int{1}, 3)}, depth: []int{0, 0, 0, 1}})
	is(t, "ahead of a loop", ways([]int{1, 2}, []int{2}, []int{1, 3}, []int{3}),
		answers{loops: []api.Loop{loop(3, []int{2}, 3)}, depth: []int{0, 0, 0, 1}})
	is(t, "with a way back to block 0", ways([]int{1, 2}, []int{2}, []int{1, 0}),
		answers{loops: []api.Loop{loop(0, nil, 0, 1, 2)}, depth: []int{1, 1, 1}})
}

// P7.1, P7.2: blocks that aren't reached are in no loop, enter none, and have no
// place in the order, whatever they lead to.
func TestNotReached(t *testing.T) {
	is(t, "leading to a loop's blocks", ways([]int{1}, []int{2, 4}, []int{1}, []int{1, 2}, nil),
		answers{loops: []api.Loop{loop(1, []int{0}, 1, 2)}, depth: []int{0, 1, 1, 0, 0}, clean: true})
	is(t, "leading to block 0", ways(nil, []int{0}, []int{1}), answers{depth: []int{0, 0, 0}, clean: true})
	is(t, "going round", ways(nil, []int{2}, []int{1}), answers{depth: []int{0, 0, 0}, clean: true})
	is(t, "going round beside a loop", ways([]int{0}, []int{2}, []int{1, 0}),
		answers{loops: []api.Loop{loop(0, nil, 0)}, depth: []int{1, 0, 0}, clean: true})
	is(t, "leading to itself", ways(nil, []int{1}), answers{depth: []int{0, 0}, clean: true})
	is(t, "two entries, one of them not reached", ways([]int{1}, []int{2}, []int{1}, []int{2}),
		answers{loops: []api.Loop{loop(1, []int{0}, 1, 2)}, depth: []int{0, 1, 1, 0}, clean: true})
}

// P7.1, P7.2: Tos that are there twice, or are no block's number, and ends of
// any Kind, tell no more than where they lead (layer 5).
func TestOddEnds(t *testing.T) {
	want := answers{loops: []api.Loop{loop(1, []int{0}, 1, 2)}, depth: []int{0, 1, 1, 0}, clean: true}
	is(t, "twice", ways([]int{1, 1}, []int{2, 2, 3, 2}, []int{1, 1}, nil), want)
	is(t, "no block's number", ways([]int{-1, 1, 4, math.MaxInt}, []int{2, -2, 3}, []int{math.MinInt, 1}, []int{4}), want)
	for _, kind := range []int{api.TermJump, api.TermBranch, api.TermReturn, 0, 4, -1, math.MaxInt} {
		f := ways([]int{1}, []int{2, 3}, []int{1}, nil)
		for i := range f.Blocks {
			f.Blocks[i].Term.Kind = kind
			f.Blocks[i].Term.Arg = kind
		}
		is(t, "of any kind", f, want)
	}
}

// P7.1, P7.2: as many blocks as there may be: in one loop, each in a loop more
// than the one ahead, each in one of its own.
func TestMostBlocks(t *testing.T) {
	last := api.MaxBlocks - 1
	round, back, own := [][]int{}, [][]int{}, [][]int{}
	var all []int
	deep, alone := answers{clean: true}, answers{clean: true}
	whole := answers{clean: true}
	for i := range api.MaxBlocks {
		all = append(all, i)
		round = append(round, []int{(i + 1) % api.MaxBlocks})
		back = append(back, []int{i + 1})
		own = append(own, []int{i, i + 1})
		whole.depth = append(whole.depth, 1)
		deep.depth = append(deep.depth, i+1)
		alone.depth = append(alone.depth, 1)
	}
	back[last] = all
	whole.loops = []api.Loop{loop(0, nil, all...)}
	for i := range api.MaxBlocks {
		entries := []int{i - 1}
		if i == 0 {
			entries = nil
		}
		deep.loops = append(deep.loops, loop(i, entries, all[i:]...))
		alone.loops = append(alone.loops, loop(i, entries, i))
	}
	is(t, "all in one", ways(round...), whole)
	is(t, "each in one more", ways(back...), deep)
	is(t, "each in its own", ways(own...), alone)
}
