package proper_test

import (
	"fmt"
	"math"
	"testing"

	"fettle/api"
	"fettle/proper"
	"fettle/sample"
)

// P13.2: parameters, and registers that nothing makes.
func TestNotMade(t *testing.T) {
	madeBy(t, "nothing", api.Func{})
	madeBy(t, "no registers", sample.Quiet(0))
	madeBy(t, "a parameter", straight(1, 1, 0), none)
	madeBy(t, "parameters, and others", straight(2, 4, 0, out(2), store(3, 1)), none, none, none, none)
	madeBy(t, "no blocks", function(1, 1, ints(2)), none, none)
}

// P13.2: an instruction's block and place, and a phi's block.
func TestMakers(t *testing.T) {
	madeBy(t, "instructions", straight(1, 4, 3, constant(3, 1), out(3), constant(1, 2), add(2, 1, 3)), none, by(0, 2), by(0, 3), by(0, 0))
	madeBy(t, "round", round([2]int{1, 4}, [2]int{1, 1}), none, none, by(1, atPhi), by(1, atPhi), by(2, 0))
	madeBy(t, "sum", sample.Sum(), none, by(2, 2), by(2, 1), by(2, 0), by(1, 0))
	f := web()
	f.Blocks[0] = withPhis(f.Blocks[0], phi(3))
	f.Blocks[6].Ins = []api.Instr{out(3), load(4, 3)}
	f.Blocks[5].Phis = []api.Phi{phi(2, 1, 1)}
	madeBy(t, "far", f, none, none, by(5, atPhi), by(0, atPhi), by(6, 1))
	madeBy(t, "calls", straight(0, 2, 0, call(0, -1), call(0, 1), call(0, 0)), by(0, 2), by(0, 1))
}

// P13.2: of one that is made more than once the first one, block by block,
// phis first.
func TestFirstMaker(t *testing.T) {
	madeBy(t, "one behind the other", straight(0, 2, 0, constant(1, 0), constant(0, 1), constant(1, 1), constant(0, 2)), by(0, 1), by(0, 0))
	f := function(0, 0, ints(3),
		block(jump(2)),
		withPhis(block(jump(2), constant(1, 1), constant(0, 1), constant(0, 2)), phi(1, 0), phi(2, 0), phi(2, 1)),
		withPhis(block(jump(1), constant(1, 1)), phi(0, 2, 2), phi(2, 1, 1)))
	madeBy(t, "phis, and instructions behind", f, by(1, 1), by(1, atPhi), by(1, atPhi))
	f.Blocks[0].Ins = []api.Instr{out(1), constant(2, 3)}
	madeBy(t, "an instruction, and phis behind", f, by(1, 1), by(1, atPhi), by(0, 1))
	f.Blocks[0].Phis = []api.Phi{phi(0), phi(2)}
	madeBy(t, "phis of block 0", f, by(0, atPhi), by(1, atPhi), by(0, atPhi))
}

// P13.2: a parameter stays one, though it is made.
func TestParameterStays(t *testing.T) {
	madeBy(t, "by an instruction", straight(2, 3, 0, constant(0, 1), constant(1, 1), constant(2, 1)), none, none, by(0, 2))
	f := straight(2, 3, 0)
	f.Blocks[0].Phis = []api.Phi{phi(0), phi(1), phi(2), phi(1)}
	madeBy(t, "by a phi", f, none, none, by(0, atPhi))
}

// P13.2: blocks that aren't reached make registers, too; it is the places that
// count, not the ways.
func TestMakersApart(t *testing.T) {
	f := function(0, api.TypeInt, ints(2), block(jump(2)), block(jump(2), constant(0, 1), constant(1, 1)), block(giveBack(0), constant(0, 7)))
	madeBy(t, "a block that isn't reached", f, by(1, 0), by(1, 1))
	f = function(0, api.TypeInt, ints(1), block(jump(2)), block(giveBack(0), constant(0, 2)), block(jump(1), constant(0, 1)))
	madeBy(t, "the one behind comes first", f, by(1, 0))
}

// P1, P13.2: functions that aren't proper.
func TestMakersOdd(t *testing.T) {
	f := straight(1, 3, 0, constant(1, 1), constant(2, 2))
	for _, n := range []int{-1, -2, math.MinInt, 0} {
		f.Params = n
		madeBy(t, fmt.Sprint("parameters: ", n), f, none, by(0, 0), by(0, 1))
	}
	for _, n := range []int{3, 4, 9, 1 << 40, math.MaxInt} {
		f.Params = n
		madeBy(t, fmt.Sprint("parameters: ", n), f, none, none, none)
	}
	f.Params = 0
	for _, n := range sample.Beyond(3) {
		f.Blocks[0].Ins[0].Dst = n
		f.Blocks[0].Phis = []api.Phi{phi(n), phi(n, n, n)}
		madeBy(t, fmt.Sprint("one that isn't there: ", n), f, none, none, by(0, 1))
	}
	odd := function(-3, 9, []int{0, 7, -1, 2, 1},
		withPhis(block(api.Term{Kind: 77, Arg: 3, To: []int{-1, 0, 9}}, api.Instr{Op: -8, Dst: 2, Args: []int{9}}, op(api.OpStore, 1), op(api.OpOut, 2, 1)),
			phi(0, 1, 2, 3, 99)))
	madeBy(t, "any types, operations and ends", odd, by(0, atPhi), by(0, 1), by(0, 0), none, none)
}

// P1, P13.2: more blocks, instructions and registers than there may be.
func TestManyMakers(t *testing.T) {
	const many = 1 << 17
	f := function(5, 0, make([]int, many))
	for b := range many {
		f.Blocks = append(f.Blocks, block(jump(b+1), constant(many-b, 1), constant(many-b-1, 1)))
	}
	for r, got := range proper.Makers(f) {
		want := by(many-r-1, 1)
		if r < 5 {
			want = none
		}
		if got != want {
			t.Fatalf("many: register %d is made by %v, want %v", r, got, want)
		}
	}
}
