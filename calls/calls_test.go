package calls_test

import (
	"fmt"
	"math"
	"testing"

	"fettle/api"
	"fettle/sample"
)

// P9.1, P9.2: the chapter's example.
func TestExample(t *testing.T) {
	is(t, "example", module([]int{1}, []int{1}, nil), answers{
		calls: [][]int{{1}, {1}, nil},
		rings: [][]int{{0}, {1}, {2}},
		waves: [][][]int{{{1}, {2}}, {{0}}},
	})
}

// P9.1, P9.2: no functions; one, of no blocks, of no calls, that calls itself.
func TestFewest(t *testing.T) {
	is(t, "no functions", api.Module{}, answers{})
	is(t, "no functions, not nil", api.Module{Funcs: []api.Func{}}, answers{})
	alone := answers{calls: [][]int{nil}, rings: [][]int{{0}}, waves: [][][]int{{{0}}}}
	is(t, "no blocks", sample.Module(api.Func{}), alone)
	is(t, "no calls", module(nil), alone)
	alone.calls = [][]int{{0}}
	is(t, "itself", module([]int{0}), alone)
}

// P9.1: of each function those that it calls, rising, each once.
func TestCalls(t *testing.T) {
	callsAre(t, "rising", module([]int{3, 1, 2, 0}, nil, []int{2, 1}, []int{0, 3}), ring(0, 1, 2, 3), nil, ring(1, 2), ring(0, 3))
	callsAre(t, "each once", module([]int{1, 1, 0, 1, 0, 0}, []int{1, 1}), ring(0, 1), ring(1))
	callsAre(t, "one that many call", module([]int{1, 1}, []int{1}, []int{1}, nil), ring(1), ring(1), ring(1), nil)
	callsAre(t, "by turns", module([]int{0, 1, 0}, []int{0, 1, 0}, []int{1, 0, 1}), ring(0, 1), ring(0, 1), ring(0, 1))
}

// P9.1: calls count in whatever block, be it reached or not.
func TestWhateverBlock(t *testing.T) {
	to := func(fun int) api.Instr { return sample.Call(fun, -1) }
	f := sample.Function(0, api.TypeNone, sample.Ints(1),
		sample.Block(sample.Jump(2), to(3), sample.Constant(0, 7)),
		sample.Block(sample.GiveBack(-1), sample.Constant(0, 7), to(1)),
		sample.Block(sample.GiveBack(-1), to(3), sample.Out(0), to(2)),
		sample.Block(sample.Jump(3), to(2), to(0)),
	)
	m := sample.Module(f, sample.Quiet(0), sample.Quiet(0), sample.Quiet(0))
	callsAre(t, "in whatever block", m, ring(0, 1, 2, 3), nil, nil, nil)
	m.Funcs[0].Blocks = m.Funcs[0].Blocks[1:]
	callsAre(t, "the others", m, ring(0, 1, 2, 3), nil, nil, nil)
	m.Funcs[0].Blocks = m.Funcs[0].Blocks[:2]
	callsAre(t, "but two", m, ring(1, 2, 3), nil, nil, nil)
}

// P9.1: only OpCall calls, whatever its Args, Dst and Imm; the Fun of no other
// operation counts.
func TestOnlyCalls(t *testing.T) {
	for op := -2; op < 25; op++ {
		in := api.Instr{Op: op, Dst: math.MaxInt, Args: []int{-1, 2, 2, 99}, Imm: math.MinInt64, Fun: 1}
		m := sample.Module(sample.Straight(0, 1, 0, in), sample.Quiet(0))
		if op == api.OpCall {
			is(t, "a call", m, answers{calls: [][]int{{1}, nil}, rings: [][]int{{0}, {1}}, waves: [][][]int{{{1}}, {{0}}}})
		} else {
			is(t, fmt.Sprint("operation ", op), m, answers{calls: [][]int{nil, nil}, rings: [][]int{{0}, {1}}, waves: [][][]int{{{0}, {1}}}})
		}
	}
}

// P9.1: Funs that are no function's number count for nothing.
func TestNoSuchFunc(t *testing.T) {
	is(t, "no such function", module([]int{-1, 1, 2, math.MaxInt}, []int{math.MinInt, 3}), answers{
		calls: [][]int{{1}, nil},
		rings: [][]int{{0}, {1}},
		waves: [][][]int{{{1}}, {{0}}},
	})
	is(t, "none at all", module([]int{1, -1}), answers{calls: [][]int{nil}, rings: [][]int{{0}}, waves: [][][]int{{{0}}}})
}

// P9.1: a ring are all that come to one another; one that calls none such is
// one alone, whether it calls itself or not.
func TestRings(t *testing.T) {
	ringsAre(t, "a row", module([]int{1}, []int{2}, nil), ring(0), ring(1), ring(2))
	ringsAre(t, "a row, the last one itself", module([]int{1}, []int{2}, []int{2}), ring(0), ring(1), ring(2))
	ringsAre(t, "two", module([]int{1}, []int{0}), ring(0, 1))
	ringsAre(t, "three", module([]int{2}, []int{0}, []int{1}), ring(0, 1, 2))
	ringsAre(t, "called by another one", module([]int{2}, []int{2}, []int{1}), ring(0), ring(1, 2))
	ringsAre(t, "calling another one", module([]int{1}, []int{0, 2}, nil), ring(0, 1), ring(2))
	ringsAre(t, "two that have one together", module([]int{1}, []int{2, 3}, []int{0}, []int{1}), ring(0, 1, 2, 3))
	ringsAre(t, "two ways round", module([]int{1, 2}, []int{3}, []int{3}, []int{0}), ring(0, 1, 2, 3))
	ringsAre(t, "a short way within", module([]int{1}, []int{2, 0}, []int{3}, []int{0}), ring(0, 1, 2, 3))
	ringsAre(t, "the second way meets the first", module([]int{1, 3}, []int{2}, []int{0}, []int{2}), ring(0, 1, 2, 3))
	ringsAre(t, "one way alone", module([]int{1, 2}, []int{3}, []int{3}, nil), ring(0), ring(1), ring(2), ring(3))
	ringsAre(t, "a way to one that is known", module([]int{1}, nil, []int{1, 3}, []int{2, 1}), ring(0), ring(1), ring(2, 3))
	ringsAre(t, "a ring, itself too", module([]int{0, 1}, []int{1, 0}), ring(0, 1))
}

// P9.1: rings come by their first functions, however they call one another,
// their functions rising.
func TestRingsOrder(t *testing.T) {
	ringsAre(t, "by turns", module([]int{4}, []int{3}, []int{0}, []int{5}, []int{2}, []int{1}), ring(0, 2, 4), ring(1, 3, 5))
	ringsAre(t, "falling", module([]int{5, 1}, []int{4, 2}, []int{3}, []int{2}, []int{1}, []int{0}), ring(0, 5), ring(1, 4), ring(2, 3))
	ringsAre(t, "rising", module([]int{5}, []int{4, 0}, []int{3, 1}, []int{2}, []int{1}, []int{0}), ring(0, 5), ring(1, 4), ring(2, 3))
	ringsAre(t, "gone round falling", module([]int{3}, []int{0}, []int{1}, []int{2}), ring(0, 1, 2, 3))
	ringsAre(t, "the last one first", module(nil, []int{0, 3}, []int{1}, nil), ring(0), ring(1), ring(2), ring(3))
}

// P9.2: a ring's wave is one more than the greatest of those that it calls.
func TestWaves(t *testing.T) {
	wavesAre(t, "no calls", module(nil, nil, nil), wave(ring(0), ring(1), ring(2)))
	wavesAre(t, "a row", module([]int{1}, []int{2}, nil), wave(ring(2)), wave(ring(1)), wave(ring(0)))
	wavesAre(t, "a row back", module(nil, []int{0}, []int{1}), wave(ring(0)), wave(ring(1)), wave(ring(2)))
	wavesAre(t, "two ways", module([]int{1, 2}, []int{3}, []int{3}, nil), wave(ring(3)), wave(ring(1), ring(2)), wave(ring(0)))
	wavesAre(t, "a short way", module([]int{1, 3}, []int{2}, []int{3}, nil), wave(ring(3)), wave(ring(2)), wave(ring(1)), wave(ring(0)))
	wavesAre(t, "a short way first", module([]int{1, 2}, nil, []int{3}, []int{1}), wave(ring(1)), wave(ring(3)), wave(ring(2)), wave(ring(0)))
	wavesAre(t, "nothing between", module([]int{3, 2}, []int{3}, nil, []int{2}, nil), wave(ring(2), ring(4)), wave(ring(3)), wave(ring(0), ring(1)))
}

// P9.2: what a ring calls of itself counts for nothing; what one of its
// functions calls of others counts for all of them.
func TestWavesOfRings(t *testing.T) {
	wavesAre(t, "itself", module([]int{0}, []int{1, 0}), wave(ring(0)), wave(ring(1)))
	wavesAre(t, "a ring", module([]int{1}, []int{2}, []int{0}), wave(ring(0, 1, 2)))
	wavesAre(t, "the first calls another", module([]int{2, 1}, []int{0}, nil), wave(ring(2)), wave(ring(0, 1)))
	wavesAre(t, "the last calls another", module([]int{1}, []int{0, 2}, nil), wave(ring(2)), wave(ring(0, 1)))
	wavesAre(t, "two rings", module([]int{1, 2}, []int{0}, []int{3}, []int{2}), wave(ring(2, 3)), wave(ring(0, 1)))
	wavesAre(t, "called of a greater wave's ring", module([]int{1}, []int{2, 0}, []int{3}, nil, []int{0}, nil),
		wave(ring(3), ring(5)), wave(ring(2)), wave(ring(0, 1)), wave(ring(4)))
	wavesAre(t, "unlike waves", module([]int{1, 2}, []int{0, 4}, nil, nil, []int{3}),
		wave(ring(2), ring(3)), wave(ring(4)), wave(ring(0, 1)))
}

// P9.2: a wave's rings come by their first functions, whichever was called first.
func TestWavesOrder(t *testing.T) {
	wavesAre(t, "called falling", module([]int{5, 3, 1}, nil, []int{5, 1}, nil, []int{1}, nil),
		wave(ring(1), ring(3), ring(5)), wave(ring(0), ring(2), ring(4)))
	wavesAre(t, "called by turns", module([]int{3}, []int{2}, nil, nil), wave(ring(2), ring(3)), wave(ring(0), ring(1)))
	wavesAre(t, "rings", module([]int{6}, []int{5}, []int{4}, []int{2, 1, 0}, []int{2}, []int{1}, []int{0}),
		wave(ring(0, 6), ring(1, 5), ring(2, 4)), wave(ring(3)))
}

// P9.1, P9.2: as many functions as there may be: in a row, in a ring, each
// calling all, all ahead of it, or none.
func TestMost(t *testing.T) {
	const last = api.MaxFuncs - 1
	var all []int
	for f := range api.MaxFuncs {
		all = append(all, f)
	}
	row, round, each, ahead, none := answers{}, answers{}, answers{}, answers{}, answers{}
	for _, f := range all {
		row.calls = append(row.calls, ring((f+1)%api.MaxFuncs))
		round.calls = append(round.calls, ring((f+1)%api.MaxFuncs))
		each.calls = append(each.calls, all)
		ahead.calls = append(ahead.calls, all[:f])
		none.calls = append(none.calls, nil)
		none.rings = append(none.rings, ring(f))
		row.waves = append(row.waves, wave(ring(last-f)))
		ahead.waves = append(ahead.waves, wave(ring(f)))
	}
	row.calls[last] = nil
	row.rings, ahead.rings = none.rings, none.rings
	round.rings, each.rings = [][]int{all}, [][]int{all}
	round.waves, each.waves, none.waves = [][][]int{{all}}, [][][]int{{all}}, [][][]int{none.rings}
	is(t, "a row", module(row.calls...), row)
	is(t, "a ring", module(round.calls...), round)
	is(t, "each all", module(each.calls...), each)
	is(t, "each all ahead", module(ahead.calls...), ahead)
	is(t, "none", module(none.calls...), none)
}

// P9.1: as many calls as a function may have, and more.
func TestManyCalls(t *testing.T) {
	var l []int
	for i := range 4 * api.MaxIns {
		l = append(l, (i*7)%5)
	}
	callsAre(t, "many calls", module(l, nil, nil, nil, l[:3]), ring(0, 1, 2, 3, 4), nil, nil, nil, ring(0, 2, 4))
}
