package graph_test

import (
	"math"
	"math/rand"
	"runtime/debug"
	"slices"
	"testing"

	"fettle/api"
	"fettle/graph"
	"fettle/sample"
)

// P5.1: the chapter's example.
func TestExample(t *testing.T) {
	f := ways([]int{2, 1}, nil, []int{1})
	leads(t, "example", f, []int{2, 1}, nil, []int{1})
	comesIn(t, "example", f, 0, 2, 1)
}

// P5.1: a function without blocks leads nowhere; one block is reached.
func TestFewest(t *testing.T) {
	for _, f := range []api.Func{{}, {Blocks: []api.Block{}}, {Params: 3, Regs: sample.Ints(9)}} {
		leads(t, "no blocks", f)
		comesIn(t, "no blocks", f)
	}
	leads(t, "one block", ways(nil), nil)
	comesIn(t, "one block", ways(nil), 0)
	comesIn(t, "one that isn't reached", ways(nil, nil), 0)
}

// P5.1: a block leads to the Tos of its end in their order, each once.
func TestNext(t *testing.T) {
	leads(t, "in their order", ways([]int{3, 1, 2}, []int{2, 3}, []int{3, 2}, nil),
		[]int{3, 1, 2}, []int{2, 3}, []int{3, 2}, nil)
	leads(t, "twice", ways([]int{1, 1}, []int{1, 2, 1}, []int{2, 2, 1, 1, 2, 0, 1}),
		[]int{1}, []int{1, 2}, []int{2, 1, 0})
	leads(t, "the same ones by turns", ways([]int{1, 2}, []int{1, 2}, []int{1, 2}),
		[]int{1, 2}, []int{1, 2}, []int{1, 2})
	leads(t, "block 0", ways([]int{0}, []int{0, 1}), []int{0}, []int{0, 1})
}

// P5.1: Tos that are no block's number count for nothing.
func TestNoBlocks(t *testing.T) {
	f := ways([]int{-1, 2, 3, 1}, []int{math.MinInt, math.MaxInt}, []int{3})
	leads(t, "no block's number", f, []int{2, 1}, nil, nil)
	comesIn(t, "no block's number", f, 0, 1, 2)
	leads(t, "no block at all", ways([]int{1}), nil)
	comesIn(t, "no block at all", ways([]int{-1}), 0)
}

// P5.1: an end's Tos tell where it leads, whatever its Kind.
func TestKinds(t *testing.T) {
	for _, kind := range []int{api.TermJump, api.TermBranch, api.TermReturn, 0, 4, -1, math.MaxInt} {
		f := ways([]int{2, 1}, nil, []int{1})
		for i := range f.Blocks {
			f.Blocks[i].Term.Kind = kind
		}
		leads(t, "of any kind", f, []int{2, 1}, nil, []int{1})
		comesIn(t, "of any kind", f, 0, 2, 1)
	}
}

// P5.1: the order is that in which blocks are done, backwards; of a block all
// that it leads to are gone to in their order.
func TestOrder(t *testing.T) {
	comesIn(t, "a row", ways([]int{1}, []int{2}, []int{3}, nil), 0, 1, 2, 3)
	comesIn(t, "a row downwards", ways([]int{3}, nil, []int{1}, []int{2}), 0, 3, 2, 1)
	comesIn(t, "two ways", ways([]int{1, 2}, []int{3}, []int{3}, nil), 0, 2, 1, 3)
	comesIn(t, "two ways, turned", ways([]int{2, 1}, []int{3}, []int{3}, nil), 0, 1, 2, 3)
	comesIn(t, "one of them nearer", ways([]int{1, 2}, []int{2}, nil), 0, 1, 2)
	comesIn(t, "three ways", ways([]int{2, 3, 1}, nil, nil, nil), 0, 1, 3, 2)
	comesIn(t, "a loop", sample.Sum(), 0, 1, 3, 2)
	comesIn(t, "a loop, left first", ways([]int{1}, []int{3, 2}, []int{1}, nil), 0, 1, 2, 3)
	comesIn(t, "a loop in a loop", ways([]int{1}, []int{2, 5}, []int{3}, []int{2, 4}, []int{1}, nil), 0, 1, 5, 2, 3, 4)
	comesIn(t, "of two entries", ways([]int{1, 2}, []int{2}, []int{1}), 0, 1, 2)
	comesIn(t, "by itself", ways([]int{1}, []int{1}), 0, 1)
	comesIn(t, "back to block 0", ways([]int{1}, []int{0, 2}, nil), 0, 1, 2)
}

// P5.1: a block that only blocks that aren't reached lead to isn't either.
func TestReached(t *testing.T) {
	comesIn(t, "beside", ways([]int{3}, []int{2}, []int{1, 3}, nil), 0, 3)
	comesIn(t, "leading to block 0", ways(nil, []int{0}, []int{0, 1}), 0)
	comesIn(t, "endless", ways([]int{2}, nil, []int{2}), 0, 2)
	f := sample.Sum()
	f.Blocks[1].Term = sample.Jump(3)
	comesIn(t, "a loop's inside", f, 0, 1, 3)
	f.Blocks[0].Term = sample.GiveBack(1)
	comesIn(t, "all but the first", f, 0)
}

// P5.1: as many blocks as there may be.
func TestMostBlocks(t *testing.T) {
	last := api.MaxBlocks - 1
	up, down, fan := [][]int{{1}}, [][]int{{last}, nil}, [][]int{nil}
	upwards, downwards := []int{0}, []int{0}
	for i := 1; i <= last; i++ {
		up, upwards = append(up, []int{i + 1}), append(upwards, i)
		down, downwards = append(down, []int{i}), append(downwards, last+1-i)
		fan[0] = append(fan[0], i)
		fan = append(fan, []int{0})
	}
	comesIn(t, "upwards", ways(up...), upwards...)
	comesIn(t, "downwards", ways(down[:last+1]...), downwards...)
	comesIn(t, "all at once", ways(fan...), downwards...)
}

// long is a function of so many blocks, each of which leads to these far
// from it.
func long(blocks int, far ...int) api.Func {
	f := api.Func{Blocks: make([]api.Block, blocks)}
	for i := range f.Blocks {
		for _, d := range far {
			f.Blocks[i].Term.To = append(f.Blocks[i].Term.To, i+d)
		}
	}
	return f
}

// far is a function of so many blocks, each of which leads to any three.
func far(r *rand.Rand, blocks int) api.Func {
	f := api.Func{Blocks: make([]api.Block, blocks)}
	for i := range f.Blocks {
		f.Blocks[i].Term.To = []int{r.Intn(blocks), r.Intn(blocks), r.Intn(blocks)}
	}
	return f
}

// P1, P5.1: a way of many blocks is gone, however little Go's stack holds.
func TestLongWays(t *testing.T) {
	defer debug.SetMaxStack(debug.SetMaxStack(8 << 20))
	const many = 1 << 18
	row := make([]int, many)
	for i := range row {
		row[i] = i
	}
	for _, by := range [][]int{{1}, {1, -1}, {-1, 1}, {1, 2}, {1, -7, 5}, {0, 1}} {
		f := long(many, by...)
		if !slices.Equal(graph.Order(f), row) {
			t.Error("each leads by ", by, ": not in their order")
		}
		if slices.Contains(graph.Reached(f), false) {
			t.Error("each leads by ", by, ": some aren't reached")
		}
	}
	f := long(many, 2)
	g, numbers := graph.Trim(f)
	if len(g.Blocks) != many/2 || numbers[many-2] != many/2-1 || g.Blocks[many/2-2].Term.To[0] != many/2-1 {
		t.Error("of a long way that goes by each other block ", len(g.Blocks), " are left")
	}
	r := rand.New(rand.NewSource(9))
	for _, f := range []api.Func{f, long(many, 2, 1), long(many, 3, -4, 1), far(r, many), far(r, many/3)} {
		if !slices.Equal(graph.Order(f), orderOf(f)) {
			t.Error("each leads as the first ones, ", f.Blocks[0].Term.To, f.Blocks[1].Term.To, ": in another order")
		}
	}
}

// P1, P5.1: an end of many Tos.
func TestManyTos(t *testing.T) {
	const many = 1 << 18
	f := api.Func{Blocks: make([]api.Block, many)}
	var to, order []int
	for i := range many {
		to = append(to, i, i)
		order = append(order, many-i)
	}
	f.Blocks[0].Term.To = to
	order[0] = 0
	comesIn(t, "many Tos", f, order...)
	if next := graph.Next(f)[0]; len(next) != many || next[many-1] != many-1 {
		t.Error("many Tos, each twice: ", len(next), " are led to")
	}
}
