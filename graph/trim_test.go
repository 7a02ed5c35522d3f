package graph_test

import (
	"math"
	"testing"

	"fettle/api"
	"fettle/sample"
)

// P5.2: the blocks that are reached, by rising numbers, with new numbers, to
// which the ends' Tos lead.
func TestTrim(t *testing.T) {
	trimmedTo(t, "all reached", sample.Sum(), sample.Sum(), 0, 1, 2, 3)
	trimmedTo(t, "by rising numbers", ways([]int{4, 2}, []int{4, 0}, []int{4}, nil, []int{2, 0}),
		ways([]int{2, 1}, []int{2}, []int{1, 0}), 0, -1, 1, -1, 2)
	trimmedTo(t, "the last ones", ways([]int{1}, nil, []int{1}, []int{2, 0}), ways([]int{1}, nil), 0, 1, -1, -1)
	trimmedTo(t, "all but the first", ways(nil, []int{2}, []int{1}), ways(nil), 0, -1, -1)
	f := sample.Sum()
	f.Blocks[1].Term = sample.Jump(3)
	g := sample.Sum()
	g.Blocks = append(g.Blocks[:2], g.Blocks[3])
	g.Blocks[1].Term = sample.Jump(2)
	trimmedTo(t, "a loop's inside", f, g, 0, 1, -1, 2)
}

// P5.2: a function without blocks stays as it is.
func TestTrimNoBlocks(t *testing.T) {
	trimmedTo(t, "nothing", api.Func{}, api.Func{})
	f := api.Func{Params: -3, Result: 7, Regs: []int{9, -1}}
	trimmedTo(t, "registers alone", f, f)
}

// P5.2: a To that is there twice stays so; one that is no block's number
// stays as it is, though it be one of a block that went.
func TestTrimOddTos(t *testing.T) {
	trimmedTo(t, "twice", ways([]int{2, 2, 0}, nil, []int{2, 0, 2}),
		ways([]int{1, 1, 0}, []int{1, 0, 1}), 0, -1, 1)
	trimmedTo(t, "no block's number", ways([]int{-1, 3, 4, 5, math.MaxInt}, nil, nil, []int{4, math.MinInt, 3, 0}),
		ways([]int{-1, 1, 4, 5, math.MaxInt}, []int{4, math.MinInt, 1, 0}), 0, -1, -1, 1)
}

// joined is a function of six blocks: 1, 2, 3 and 4 lead to 5, block 0 leads to
// these, and 5 has these phis.
func joined(from []int, phis ...[]int) api.Func {
	f := ways(from, []int{5}, []int{5}, []int{5}, []int{5}, nil)
	for i, args := range phis {
		f.Blocks[5].Phis = append(f.Blocks[5].Phis, api.Phi{Dst: i, Args: args})
	}
	return f
}

// withPhis is a function whose last block has these phis.
func withPhis(f api.Func, phis ...[]int) api.Func {
	last := &f.Blocks[len(f.Blocks)-1]
	for i, args := range phis {
		last.Phis = append(last.Phis, api.Phi{Dst: i, Args: args})
	}
	return f
}

// P5.2: phis lose the Args that stood for blocks that went.
func TestTrimPhis(t *testing.T) {
	trimmedTo(t, "none went", joined([]int{1, 2, 3, 4}, []int{6, 7, 8, 9}),
		joined([]int{1, 2, 3, 4}, []int{6, 7, 8, 9}), 0, 1, 2, 3, 4, 5)
	trimmedTo(t, "two went", joined([]int{4, 2}, []int{6, 7, 8, 9}, []int{-5, -5, 300, 0}),
		withPhis(ways([]int{2, 1}, []int{3}, []int{3}, nil), []int{7, 9}, []int{-5, 0}), 0, -1, 1, -1, 2, 3)
	trimmedTo(t, "the first ones went", joined([]int{3, 4}, []int{6, 7, 8, 9}),
		withPhis(ways([]int{1, 2}, []int{3}, []int{3}, nil), []int{8, 9}), 0, -1, -1, 1, 2, 3)
	trimmedTo(t, "the last ones went", joined([]int{1}, []int{6, 7, 8, 9}),
		withPhis(ways([]int{1}, []int{2}, nil), []int{6}), 0, 1, -1, -1, -1, 2)
}

// P5.2: a phi of more or fewer Args than blocks ahead stays as it is, beside
// one that doesn't.
func TestTrimOddPhis(t *testing.T) {
	trimmedTo(t, "other phis", joined([]int{2, 3}, []int{1, 2, 3}, []int{6, 7, 8, 9}, nil, []int{1, 2, 3, 4, 5}, []int{1, 2}),
		withPhis(ways([]int{1, 2}, []int{3}, []int{3}, nil), []int{1, 2, 3}, []int{7, 8}, nil, []int{1, 2, 3, 4, 5}, []int{1, 2}),
		0, -1, 1, 2, -1, 3)
}

// P5.2: a block that leads to one by two Tos is ahead of it once; a block may
// be ahead of itself, and block 0 may have some ahead of it, all of which went.
func TestTrimPhisAhead(t *testing.T) {
	f := ways([]int{3}, []int{3, 3}, []int{3}, []int{3, 3, 2, -1})
	f.Blocks[3].Phis = []api.Phi{{Dst: 0, Args: []int{5, 6, 7, 8}}, {Dst: 1, Args: []int{1, 2, 3, 4, 5}}}
	g := ways([]int{2}, []int{2}, []int{2, 2, 1, -1})
	g.Blocks[2].Phis = []api.Phi{{Dst: 0, Args: []int{5, 7, 8}}, {Dst: 1, Args: []int{1, 2, 3, 4, 5}}}
	trimmedTo(t, "by two Tos", f, g, 0, -1, 1, 2)

	f = ways(nil, []int{0, 2}, []int{0, 1})
	f.Blocks[0].Phis = []api.Phi{{Dst: 4, Args: []int{1, 2}}, {Dst: 5, Args: []int{1}}, {Dst: 6}}
	g = ways(nil)
	g.Blocks[0].Phis = []api.Phi{{Dst: 4}, {Dst: 5, Args: []int{1}}, {Dst: 6}}
	trimmedTo(t, "block 0", f, g, 0, -1, -1)
}

// P5.2: all else is as it was, however odd.
func TestTrimAllElse(t *testing.T) {
	odd := api.Block{
		Phis: []api.Phi{{Dst: -7}},
		Ins: []api.Instr{
			sample.Constant(3, math.MinInt64), sample.Call(9, -1, 4, 5, 6), sample.Out(2), sample.Store(1, 0),
			{Op: -3, Dst: math.MaxInt, Args: []int{math.MinInt}, Imm: 8, Fun: -2}, {},
		},
		Term: api.Term{Kind: 8, Arg: 77, To: []int{2}},
	}
	f := sample.Function(-1, 9, []int{1, 2, 0, 5}, sample.Block(sample.Branch(3, 2, 3)), odd, odd, sample.Block(sample.GiveBack(12)))
	moved := odd
	moved.Phis = []api.Phi{{Dst: -7}}
	moved.Term.To = []int{1}
	g := sample.Function(-1, 9, []int{1, 2, 0, 5}, sample.Block(sample.Branch(3, 1, 2)), moved, sample.Block(sample.GiveBack(12)))
	trimmedTo(t, "all else", f, g, 0, -1, 1, 2)
}
