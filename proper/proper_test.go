package proper_test

import (
	"fmt"
	"slices"
	"testing"

	"fettle/api"
	"fettle/sample"
)

// P13.1: the chapter's example: a function that returns its first parameter.
func TestExample(t *testing.T) {
	is(t, "returns its first parameter", straight(1, 1, 0))
	is(t, "of three", straight(3, 3, 0))
	is(t, "the last of eight", straight(8, 8, 7))
}

// P13.1: what nobody names needn't be made, and what is made needn't be named;
// ends that name none are no harm.
func TestNotNamed(t *testing.T) {
	is(t, "no registers", sample.Quiet(0))
	is(t, "none made", sample.Quiet(9))
	is(t, "as many as there may be", sample.Quiet(api.MaxRegs))
	is(t, "round", sample.Endless())
	is(t, "none named", straight(1, 4, 0, constant(3, 1), constant(1, 2)))
	is(t, "behind the end", function(1, api.TypeNone, []int{2, 1}, block(branch(0, 1, 2), constant(1, 3)), block(jump(2)), block(giveBack(-1))))
}

// P13.1: within a block a register is ahead of what comes behind what makes it.
func TestWithinBlock(t *testing.T) {
	is(t, "just ahead", straight(0, 1, 0, constant(0, 1)))
	is(t, "far ahead", straight(0, 3, 2, constant(1, 1), constant(0, 2), add(2, 0, 1), out(2), out(1), out(0)))
	soon(t, "never made", straight(0, 1, 0), 0)
	soon(t, "one not made", straight(1, 2, 1), 1)
	soon(t, "made behind", straight(1, 3, 0, constant(1, 5), out(2), constant(2, 7)), 2)
	soon(t, "made just behind", straight(0, 2, 0, add(0, 1, 1), constant(1, 7)), 1)
	soon(t, "made of itself", straight(1, 2, 1, add(1, 0, 1)), 1)
	soon(t, "ahead of the end, not of all", straight(1, 2, 1, out(1), constant(1, 4)), 1)
	soon(t, "both ahead and behind", straight(1, 2, 1, out(1), constant(1, 4), out(1)), 1)
	is(t, "parameters", straight(2, 3, 0, out(1), add(2, 1, 0), out(0)))
}

// namers are a module's instructions that name its second register, an int, in
// each way; they make none of the first three. Function 1 is for them to call.
func namers() []api.Instr {
	l := []api.Instr{out(1), store(1, 0), store(0, 1), load(3, 1), op(api.OpCopy, 3, 1), call(1, 3, 1, 0), call(1, 3, 0, 1), call(1, 3, 1, 1)}
	for o := api.OpAdd; o <= api.OpDiv; o++ {
		l = append(l, op(o, 3, 0, 1), op(o, 3, 1, 0), op(o, 3, 1, 1))
	}
	for o := api.OpLt; o <= api.OpEq; o++ {
		l = append(l, op(o, 2, 0, 1), op(o, 2, 1, 0))
	}
	return l
}

// P13.1: each Arg of each operation counts.
func TestEachOp(t *testing.T) {
	for i, in := range namers() {
		f := func(ins ...api.Instr) api.Func {
			return function(1, api.TypeInt, []int{1, 1, 2, 1}, block(giveBack(0), ins...))
		}
		try := func(what string, f api.Func, want error) {
			t.Helper()
			formIs(t, fmt.Sprintf("%v, %s", in, what), module(f, straight(2, 2, 0)), 0, want)
		}
		try("ahead", f(constant(1, int64(i)), in), nil)
		try("behind", f(in, constant(1, 3)), at(1, api.ErrNone))
		try("not made", f(in), at(1, api.ErrNone))
	}
	truth := func(ins ...api.Instr) api.Func {
		return function(1, api.TypeBool, []int{2, 2, 2}, block(giveBack(0), ins...))
	}
	is(t, "not, ahead", truth(constant(1, 1), op(api.OpNot, 2, 1)))
	soon(t, "not, behind", truth(op(api.OpNot, 2, 1), constant(1, 1)), 1)
	soon(t, "not, of itself", truth(op(api.OpNot, 2, 2)), 2)
	copied := truth(op(api.OpCopy, 2, 1))
	soon(t, "a bool copied", copied, 1)
}

// web is a function of blocks 0 to 6, of two parameters, a bool and an int: 0
// parts to 1 and 2, both lead to 3, which 4 goes round with; 5 goes round with
// itself, and then returns by 6. Register 2 is an int that nothing makes.
func web() api.Func {
	return function(2, api.TypeInt, []int{2, 1, 1, 1, 1},
		block(branch(0, 1, 2)),
		block(jump(3)),
		block(jump(3)),
		block(branch(0, 5, 4)),
		block(jump(3)),
		block(branch(0, 5, 6)),
		block(giveBack(1)),
	)
}

// webDominates are of each of its blocks those that it dominates.
func webDominates(b int) []int {
	return [][]int{{0, 1, 2, 3, 4, 5, 6}, {1}, {2}, {3, 4, 5, 6}, {4}, {5, 6}, {6}}[b]
}

// P13.1: what is made in a block is ahead of all in the blocks that it
// dominates and isn't, and of nothing in others.
func TestOtherBlocks(t *testing.T) {
	for made := range 7 {
		for named := range 7 {
			what := fmt.Sprintf("made in %d, named in %d", made, named)
			want := at(2, api.ErrNone)
			if slices.Contains(webDominates(made), named) {
				want = nil
			}
			f := web()
			f.Blocks[made].Ins = []api.Instr{constant(2, 4)}
			f.Blocks[named].Ins = append(f.Blocks[named].Ins, out(2))
			isNot(t, what, f, want)
			if made != named {
				f.Blocks[made].Ins = []api.Instr{constant(3, 1), out(3), constant(2, 4)}
				f.Blocks[named].Ins = []api.Instr{out(2), constant(4, 4)}
				isNot(t, what+", late and early", f, want)
				continue
			}
			f.Blocks[named].Ins = []api.Instr{out(2), constant(2, 4)}
			soon(t, what+", the other way round", f, 2)
		}
	}
}

// P13.1: ends name registers, too: what a branch asks, and what is returned.
func TestEnds(t *testing.T) {
	for made := range 7 {
		for _, named := range []int{0, 3, 5, 6} {
			f := web()
			f.Regs[2] = api.TypeBool
			f.Blocks[made].Ins = []api.Instr{constant(2, 1)}
			f.Blocks[named].Term.Arg = 2
			if named == 6 {
				f.Regs[2] = api.TypeInt
			}
			want := at(2, api.ErrNone)
			if slices.Contains(webDominates(made), named) {
				want = nil
			}
			isNot(t, fmt.Sprintf("made in %d, named by %d's end", made, named), f, want)
		}
	}
}

// P13.1: a phi's Args have to be ahead of the ends of the blocks that they
// stand for, not of the phi.
func TestPhis(t *testing.T) {
	edges := [][2]int{{1, 3}, {2, 3}, {4, 3}, {3, 5}, {5, 5}, {0, 1}, {0, 2}, {3, 4}, {5, 6}}
	ahead := [][]int{{}, {0}, {0}, {1, 2, 4}, {3}, {3, 5}, {5}}
	for made := range 7 {
		for _, e := range edges {
			from, to := e[0], e[1]
			what := fmt.Sprintf("made in %d, named on the way from %d to %d", made, from, to)
			f := web()
			f.Blocks[made].Ins = []api.Instr{constant(2, 1)}
			p := phi(3, slices.Repeat([]int{1}, len(ahead[to]))...)
			p.Args[slices.Index(ahead[to], from)] = 2
			f.Blocks[to].Phis = []api.Phi{phi(4, slices.Repeat([]int{1}, len(ahead[to]))...), p}
			want := at(2, api.ErrNone)
			if slices.Contains(webDominates(made), from) {
				want = nil
			}
			isNot(t, what, f, want)
			if made > 0 {
				f.Blocks[made].Ins = nil
				f.Blocks[made].Phis = append(f.Blocks[made].Phis, phi(2, slices.Repeat([]int{1}, len(ahead[made]))...))
				isNot(t, what+", by a phi", f, want)
			}
		}
	}
}

// P13.1: phis stand ahead of all instructions of their block.
func TestPhisAheadOfInstructions(t *testing.T) {
	f := function(1, api.TypeInt, ints(4), block(jump(1)), withPhis(block(giveBack(3), add(3, 1, 2), out(1)), phi(1, 0), phi(2, 0)))
	is(t, "phis", f)
	f.Blocks[1].Phis[0].Args[0] = 2
	soon(t, "of another one", f, 2)
	f.Blocks[1].Phis[0].Args[0] = 1
	soon(t, "of itself", f, 1)
	f.Blocks[1].Phis[0].Args[0] = 3
	soon(t, "of an instruction", f, 3)
}

// round is a function whose block 1 goes round with block 2, then returns: it
// has two phis, of these Args.
func round(one, other [2]int) api.Func {
	return function(2, api.TypeInt, []int{2, 1, 1, 1, 1},
		block(jump(1)),
		withPhis(block(branch(0, 2, 3)), phi(2, one[:]...), phi(3, other[:]...)),
		block(jump(1), constant(4, 9)),
		block(giveBack(2)),
	)
}

// P13.1: round a loop phis may change places, or keep what they are.
func TestPhisRound(t *testing.T) {
	is(t, "made round", round([2]int{1, 4}, [2]int{1, 1}))
	is(t, "change places", round([2]int{1, 3}, [2]int{1, 2}))
	is(t, "of themselves", round([2]int{1, 2}, [2]int{1, 3}))
	soon(t, "of itself, entered", round([2]int{2, 1}, [2]int{1, 1}), 2)
	soon(t, "of the other one, entered", round([2]int{3, 1}, [2]int{1, 1}), 3)
	soon(t, "of what is made round, entered", round([2]int{1, 4}, [2]int{4, 1}), 4)
	soon(t, "both of what is made round, entered", round([2]int{4, 4}, [2]int{3, 3}), 3)
	alone := function(2, api.TypeInt, []int{2, 1, 1, 1},
		block(jump(1)), withPhis(block(branch(0, 1, 2), add(3, 2, 2)), phi(2, 1, 3)), block(giveBack(3)))
	is(t, "a block with itself", alone)
	alone.Blocks[1].Phis[0].Args = []int{3, 1}
	soon(t, "a block with itself, entered", alone, 3)
}

// P13.1: Args stand for the blocks ahead by their numbers, whatever the Tos'
// order, and however far they are.
func TestArgsByNumber(t *testing.T) {
	f := function(1, api.TypeInt, []int{2, 1, 1, 1},
		block(branch(0, 4, 2)),
		withPhis(block(giveBack(3)), phi(3, 1, 2)),
		block(jump(1), constant(1, 5)),
		block(jump(1), constant(2, 6)),
		block(jump(3)),
	)
	is(t, "by numbers", f)
	f.Blocks[1].Phis[0].Args = []int{2, 1}
	soon(t, "the other way round", f, 1)
	f.Blocks[1].Phis[0].Args = []int{2, 2}
	soon(t, "the latter twice", f, 2)
	f.Blocks[1].Phis[0].Args = []int{1, 1}
	soon(t, "the former twice", f, 1)
	both := function(2, api.TypeInt, []int{1, 2, 1, 1},
		block(branch(1, 2, 1)), withPhis(block(giveBack(3)), phi(3, 0, 2)), block(jump(1), constant(2, 7)))
	is(t, "block 0 beside its way", both)
	both.Blocks[1].Phis[0].Args = []int{2, 0}
	soon(t, "block 0 beside its way, the other way round", both, 2)
}

// P13.1: a register may be made once.
func TestMadeAgain(t *testing.T) {
	five, six := constant(1, 5), constant(1, 6)
	again(t, "one behind the other", straight(1, 2, 1, five, six), 1)
	again(t, "far behind", straight(1, 3, 1, five, out(1), constant(2, 3), out(2), six), 1)
	again(t, "three times", straight(1, 2, 1, five, six, five), 1)
	again(t, "four times", straight(1, 2, 1, five, six, five, six), 1)
	again(t, "for nothing", straight(1, 2, 0, five, six), 1)
	again(t, "of itself", straight(1, 2, 1, five, add(1, 1, 1)), 1)
	formIs(t, "by a call", module(straight(1, 2, 1, five, call(0, 1, 0))), 0, at(1, api.ErrState))
	for one := range 7 {
		for other := range one {
			f := web()
			f.Blocks[one].Ins, f.Blocks[other].Ins = []api.Instr{constant(2, 1)}, []api.Instr{constant(2, 1)}
			again(t, fmt.Sprintf("in %d and %d", other, one), f, 2)
		}
	}
	is(t, "calls that make none", function(0, 0, ints(1), block(giveBack(-1), call(0, -1), call(0, -1), constant(0, 1), out(0), store(0, 0), out(0))))
}

// P13.1: so by phis: two of one block, of two, and a phi and an instruction;
// block 0's make registers, too, though there is nothing that they are of.
func TestMadeAgainByPhis(t *testing.T) {
	f := round([2]int{1, 1}, [2]int{1, 1})
	f.Blocks[1].Phis[1].Dst = 2
	again(t, "two phis", f, 2)
	f.Blocks[1].Phis[1].Dst = 4
	again(t, "a phi, and behind it an instruction", f, 4)
	f.Blocks[1].Phis[1].Dst = 3
	f.Blocks[3].Phis = []api.Phi{phi(3, 1)}
	again(t, "phis of two blocks", f, 3)
	f.Blocks[3].Phis = nil
	f.Blocks[0].Ins = []api.Instr{constant(3, 0)}
	again(t, "an instruction, and behind it a phi", f, 3)
	f.Blocks[0] = withPhis(block(jump(1)), phi(3))
	again(t, "a phi of nothing", f, 3)
	f.Blocks[0].Phis[0].Dst = 4
	again(t, "a phi of nothing, and an instruction", f, 4)
	f.Blocks[2].Ins = []api.Instr{out(4)}
	is(t, "a phi of nothing alone", f)
	f.Blocks[0].Phis = []api.Phi{phi(4), phi(4)}
	again(t, "phis of nothing", f, 4)
}

// P13.1: a parameter may not be made.
func TestParameterMade(t *testing.T) {
	for r := range 3 {
		what := fmt.Sprint("parameter ", r)
		again(t, what, straight(3, 4, 0, constant(r, 1)), r)
		again(t, what+", last", straight(3, 4, 3, constant(3, 1), out(3), add(r, 3, 3)), r)
		again(t, what+", twice", straight(3, 4, 0, constant(r, 1), constant(r, 2)), r)
		f := straight(3, 4, 0)
		f.Blocks[0].Phis = []api.Phi{phi(r)}
		again(t, what+", by a phi of nothing", f, r)
		f.Blocks = []api.Block{block(jump(1)), withPhis(block(giveBack(0)), phi(r, r))}
		again(t, what+", by a phi of itself", f, r)
	}
	is(t, "the first one that isn't one", straight(3, 4, 3, constant(3, 1)))
}

// P13.1: of all registers that are made more than once the lowest one is told,
// of all that are named too soon, too.
func TestLowest(t *testing.T) {
	again(t, "the last one made", straight(1, 4, 0, constant(3, 1), constant(3, 1), constant(2, 1), constant(1, 3), constant(2, 1)), 2)
	again(t, "a parameter last", straight(2, 4, 0, constant(3, 1), constant(3, 1), constant(1, 3)), 1)
	again(t, "a parameter first", straight(2, 4, 0, constant(0, 1), constant(3, 1), constant(3, 3), constant(1, 1)), 0)
	soon(t, "the last one named", straight(1, 4, 2, out(3), add(3, 3, 2)), 2)
	soon(t, "the end's", straight(1, 4, 1, out(3), out(2)), 1)
	soon(t, "an Arg behind another one", straight(1, 4, 0, store(3, 2)), 2)
	f := round([2]int{4, 4}, [2]int{1, 3})
	f.Blocks[0].Ins = []api.Instr{out(3)}
	soon(t, "phis, and an instruction ahead", f, 3)
	f.Blocks[0].Ins = []api.Instr{out(4)}
	f.Blocks[1].Phis[1].Args[0] = 2
	soon(t, "phis, and an instruction ahead", f, 2)
}

// P13.1: the other functions may be as they like, if they are proper.
func TestOtherFunctions(t *testing.T) {
	apart := function(0, 0, nil, block(giveBack(-1)), block(jump(1)))
	others := []api.Func{sample.Sum(), apart, straight(1, 1, 0, constant(0, 1)), straight(0, 1, 0)}
	m := module(append(others, straight(1, 1, 0))...)
	formIs(t, "behind others", m, 4, nil)
	formIs(t, "sum", m, 0, at(1, api.ErrNone))
	formIs(t, "a block apart", m, 1, api.ErrShape)
	formIs(t, "a parameter made", m, 2, at(0, api.ErrState))
	formIs(t, "not made", m, 3, at(0, api.ErrNone))
	many := module(slices.Repeat([]api.Func{straight(1, 1, 0)}, api.MaxFuncs-1)...)
	many.Funcs = append(many.Funcs, sample.Sum())
	for f := range api.MaxFuncs - 1 {
		formIs(t, "as many as there may be", many, f, nil)
	}
	formIs(t, "as many as there may be", many, api.MaxFuncs-1, at(1, api.ErrNone))
}
