package ssa_test

import (
	"fmt"
	"testing"

	"fettle/api"
	"fettle/sample"
)

// P12.1: the chapter's example: a function that returns its first parameter is
// built to itself.
func TestExample(t *testing.T) {
	build.Builds(t, "one parameter", straight(1, 1, 0), straight(1, 1, 0))
	build.Builds(t, "more parameters", straight(3, 3, 0), straight(3, 3, 0))
	build.Builds(t, "more registers", straight(1, 9, 0), straight(1, 1, 0))
	truth := function(1, api.TypeBool, []int{2}, block(giveBack(0)))
	build.Builds(t, "a bool", truth, truth)
}

// P12.1: no registers; ones that nothing names; parameters stay.
func TestFewest(t *testing.T) {
	build.Builds(t, "no registers", sample.Quiet(0), sample.Quiet(0))
	build.Builds(t, "no registers, round", sample.Endless(), sample.Endless())
	build.Builds(t, "none named", sample.Quiet(9), sample.Quiet(0))
	build.Builds(t, "as many as there may be", sample.Quiet(api.MaxRegs), sample.Quiet(0))
	idle := function(8, api.TypeNone, []int{1, 2, 2, 1, 2, 1, 1, 2, 1, 2}, block(giveBack(-1)))
	build.Builds(t, "parameters", idle, function(8, api.TypeNone, []int{1, 2, 2, 1, 2, 1, 1, 2}, block(giveBack(-1))))
}

// P12.1: within a block an Arg is what was made last ahead of it.
func TestWithinBlock(t *testing.T) {
	build.Builds(t, "a parameter made", straight(1, 1, 0, add(0, 0, 0)), straight(1, 2, 1, add(1, 0, 0)))
	build.Builds(t, "made three times",
		straight(1, 2, 1, constant(1, 5), add(1, 1, 0), out(1), dup(1, 1), out(0)),
		straight(1, 4, 3, constant(1, 5), add(2, 1, 0), out(2), dup(3, 2), out(0)))
	build.Builds(t, "made for nothing", straight(1, 3, 0, constant(2, 9), constant(2, 8)), straight(1, 3, 0, constant(1, 9), constant(2, 8)))
	build.Builds(t, "used, made, used",
		straight(2, 2, 0, store(0, 1), add(1, 0, 1), store(1, 0), dup(0, 1), store(0, 1)),
		straight(2, 4, 3, store(0, 1), add(2, 0, 1), store(2, 0), dup(3, 2), store(3, 2)))
}

// P12.1: block 0 begins with a zero of each register, but the parameters, that
// is wanted there, by rising ones, of its type.
func TestZeros(t *testing.T) {
	build.Builds(t, "two of three", straight(1, 4, 3, out(2), constant(1, 4)),
		straight(1, 4, 2, constant(1, 0), constant(2, 0), out(1), constant(3, 4)))
	build.Builds(t, "used the other way round", straight(0, 3, 0, out(2), out(1), out(0)),
		straight(0, 3, 0, constant(0, 0), constant(1, 0), constant(2, 0), out(2), out(1), out(0)))
	build.Builds(t, "used, then made", straight(0, 1, 0, out(0), constant(0, 3)), straight(0, 2, 1, constant(0, 0), out(0), constant(1, 3)))
	build.Builds(t, "made, then used", straight(0, 1, 0, constant(0, 3), out(0)), straight(0, 1, 0, constant(0, 3), out(0)))
	build.Builds(t, "made of itself", straight(0, 1, 0, add(0, 0, 0)), straight(0, 2, 1, constant(0, 0), add(1, 0, 0)))
	build.Builds(t, "a bool", function(0, api.TypeBool, []int{1, 2}, block(giveBack(1))),
		function(0, api.TypeBool, []int{2}, block(giveBack(0), constant(0, 0))))
	build.Builds(t, "by the branch", function(0, api.TypeNone, []int{1, 2, 1}, block(branch(1, 1, 2), out(2)), block(giveBack(-1)), block(giveBack(-1))),
		function(0, api.TypeNone, []int{2, 1}, block(branch(0, 1, 2), constant(0, 0), constant(1, 0), out(1)), block(giveBack(-1)), block(giveBack(-1))))
	build.Builds(t, "far behind, of one way", function(1, api.TypeInt, []int{2, 1, 1},
		block(branch(0, 1, 2), constant(2, 8)), block(giveBack(2)), block(jump(3)), block(giveBack(1))),
		function(1, api.TypeInt, []int{2, 1, 1},
			block(branch(0, 1, 2), constant(1, 0), constant(2, 8)), block(giveBack(2)), block(jump(3)), block(giveBack(1))))
}

// P12.1: all else of an instruction is as it was: what it does, numbers, the
// function that it calls, a Dst that there isn't.
func TestElseAsItWas(t *testing.T) {
	m := module(
		function(1, api.TypeInt, ints(3), block(giveBack(2),
			constant(1, -7), call(2, 2, 0, 1), store(1, 2), load(1, 2), out(1), call(1, -1), call(2, 0, 1, 2), call(1, -1))),
		sample.Quiet(3),
		straight(2, 2, 0),
	)
	build.Is(t, "calls", m, 0, function(1, api.TypeInt, ints(5), block(giveBack(2),
		constant(1, -7), call(2, 2, 0, 1), store(1, 2), load(3, 2), out(3), call(1, -1), call(2, 4, 3, 2), call(1, -1))))
	for o := api.OpAdd; o <= api.OpEq; o++ {
		typ := api.TypeInt
		if o >= api.OpLt {
			typ = api.TypeBool
		}
		build.Builds(t, fmt.Sprint("operation ", o), function(2, typ, []int{1, 1, 1, typ}, block(giveBack(3), op(o, 3, 1, 0))),
			function(2, typ, []int{1, 1, typ}, block(giveBack(2), op(o, 2, 1, 0))))
	}
	for _, n := range []int64{-1 << 63, 1<<63 - 1, 1, -1} {
		build.Builds(t, fmt.Sprint("constant ", n), straight(0, 2, 1, constant(1, n)), straight(0, 1, 0, constant(0, n)))
	}
}

// meeting is a function of two parameters, an int and a bool, and an int, whose
// two ways part and meet again; behind is what comes then.
func meeting(regs []int, one, other []api.Instr, behind api.Block) api.Func {
	return function(2, api.TypeInt, regs, block(branch(1, 1, 2)), block(jump(3), one...), block(jump(3), other...), behind)
}

// P12.1: where ways meet there is a phi of what is made on one of them, if it
// is wanted there; an Arg of each way.
func TestMeeting(t *testing.T) {
	try := func(what string, back int, one, other []api.Instr, want api.Func) {
		t.Helper()
		build.Builds(t, what, meeting([]int{1, 2, 1}, one, other, block(giveBack(back))), want)
	}
	five, six := []api.Instr{constant(2, 5)}, []api.Instr{constant(2, 6)}
	back := func(reg int) api.Block { return block(giveBack(reg)) }
	with := func(args ...int) api.Block { return withPhis(back(args[0]), phi(args[0], args[1:]...)) }
	regs := []int{1, 2, 1, 1, 1}
	try("a parameter, one way", 0, []api.Instr{constant(0, 5)}, nil, meeting(regs[:4], five, nil, with(3, 2, 0)))
	try("a parameter, the other way", 0, nil, []api.Instr{constant(0, 6)}, meeting(regs[:4], nil, six, with(3, 0, 2)))
	try("a parameter, both ways", 0, []api.Instr{constant(0, 5)}, []api.Instr{constant(0, 6)},
		meeting(regs, five, []api.Instr{constant(3, 6)}, with(4, 2, 3)))
	try("neither way", 0, nil, nil, meeting(regs[:2], nil, nil, back(0)))
	try("for nothing", 0, five, six, meeting(regs[:4], five, []api.Instr{constant(3, 6)}, back(0)))
	try("used on the way alone", 0, []api.Instr{constant(2, 5), out(2)}, nil, meeting(regs[:3], []api.Instr{constant(2, 5), out(2)}, nil, back(0)))
	zero := meeting(regs, []api.Instr{constant(3, 5)}, nil, with(4, 3, 2))
	zero.Blocks[0].Ins = []api.Instr{constant(2, 0)}
	try("one way, else a zero", 2, five, nil, zero)
	zero = meeting(regs, nil, []api.Instr{constant(3, 6)}, with(4, 2, 3))
	zero.Blocks[0].Ins = []api.Instr{constant(2, 0)}
	try("the other way, else a zero", 2, nil, six, zero)
	try("both ways", 2, five, six, meeting(regs, five, []api.Instr{constant(3, 6)}, with(4, 2, 3)))
	try("twice on one way", 0, []api.Instr{constant(0, 5), add(0, 0, 0)}, nil,
		meeting(regs, []api.Instr{constant(2, 5), add(3, 2, 2)}, nil, with(4, 3, 0)))
}

// P12.1: what is made ahead of where ways part, or where they meet, needs no phi.
func TestMadeAheadOrBehind(t *testing.T) {
	ahead := meeting([]int{1, 2, 1}, []api.Instr{out(2)}, nil, block(giveBack(2)))
	ahead.Blocks[0].Ins = []api.Instr{constant(2, 9)}
	build.Builds(t, "ahead", ahead, ahead)
	ahead.Blocks[1].Ins = []api.Instr{out(0), add(0, 2, 2), out(0)}
	want := sample.Copy(ahead)
	want.Regs = append(want.Regs, 1)
	want.Blocks[1].Ins = []api.Instr{out(0), add(3, 2, 2), out(3)}
	build.Builds(t, "ahead, another one on a way", ahead, want)
	build.Builds(t, "behind",
		meeting([]int{1, 2, 1}, []api.Instr{constant(0, 5)}, []api.Instr{constant(0, 6)}, block(giveBack(0), constant(0, 7), out(0))),
		meeting([]int{1, 2, 1, 1, 1}, []api.Instr{constant(2, 5)}, []api.Instr{constant(3, 6)}, block(giveBack(4), constant(4, 7), out(4))))
	build.Builds(t, "behind, but used there first",
		meeting([]int{1, 2}, []api.Instr{constant(0, 5)}, nil, block(giveBack(0), out(0), add(0, 0, 0))),
		meeting([]int{1, 2, 1, 1, 1}, []api.Instr{constant(2, 5)}, nil, withPhis(block(giveBack(4), out(3), add(4, 3, 3)), phi(3, 2, 0))))
	build.Builds(t, "used on the way beside",
		meeting([]int{1, 2}, []api.Instr{constant(0, 5)}, []api.Instr{out(0)}, block(giveBack(0), constant(0, 7))),
		meeting([]int{1, 2, 1, 1}, []api.Instr{constant(2, 5)}, []api.Instr{out(0)}, block(giveBack(3), constant(3, 7))))
}

// P12.1: a block's phis come by rising old registers, in whatever order these
// are made and used.
func TestManyPhis(t *testing.T) {
	f := meeting([]int{1, 2, 1, 2}, []api.Instr{constant(3, 1), constant(2, 5), constant(0, 6)}, nil,
		block(branch(3, 4, 5), out(2), out(0)))
	f.Blocks = append(f.Blocks, block(giveBack(2)), block(giveBack(0)))
	want := meeting([]int{1, 2, 1, 2, 2, 1, 1, 1, 1, 2}, []api.Instr{constant(4, 1), constant(5, 5), constant(6, 6)}, nil,
		withPhis(block(branch(9, 4, 5), out(8), out(7)), phi(7, 6, 0), phi(8, 5, 2), phi(9, 4, 3)))
	want.Blocks[0].Ins = []api.Instr{constant(2, 0), constant(3, 0)}
	want.Blocks = append(want.Blocks, block(giveBack(8)), block(giveBack(7)))
	build.Builds(t, "three phis", f, want)
}

// P12.1: phis' Args stand by rising numbers of the blocks ahead, whatever the
// order in which these are come to.
func TestArgsOfPhis(t *testing.T) {
	build.Builds(t, "ways turned",
		function(2, api.TypeInt, []int{1, 2}, block(branch(1, 3, 2)), block(giveBack(0)), block(jump(1), constant(0, 5)), block(jump(1), constant(0, 6))),
		function(2, api.TypeInt, []int{1, 2, 1, 1, 1}, block(branch(1, 3, 2)), withPhis(block(giveBack(2)), phi(2, 3, 4)),
			block(jump(1), constant(3, 5)), block(jump(1), constant(4, 6))))
	build.Builds(t, "one way straight",
		function(2, api.TypeInt, []int{1, 2}, block(branch(1, 2, 1)), block(jump(2), constant(0, 5)), block(giveBack(0))),
		function(2, api.TypeInt, []int{1, 2, 1, 1}, block(branch(1, 2, 1)), block(jump(2), constant(2, 5)), withPhis(block(giveBack(3)), phi(3, 0, 2))))
	build.Builds(t, "three ways",
		function(2, api.TypeInt, []int{1, 2}, block(branch(1, 4, 3)), block(giveBack(0)), block(jump(1)),
			block(branch(1, 1, 2), constant(0, 5)), block(jump(1), constant(0, 6))),
		function(2, api.TypeInt, []int{1, 2, 1, 1, 1}, block(branch(1, 4, 3)), withPhis(block(giveBack(2)), phi(2, 3, 3, 4)), block(jump(1)),
			block(branch(1, 1, 2), constant(3, 5)), block(jump(1), constant(4, 6))))
}

// P12.1: a phi makes its register, too: so there is one where that meets
// another version.
func TestClosed(t *testing.T) {
	nested := func(in3 ...api.Instr) api.Func {
		return function(2, api.TypeInt, []int{1, 2}, block(branch(1, 1, 4)), block(branch(1, 2, 3)), block(jump(3), constant(0, 5)),
			block(jump(5), in3...), block(jump(5)), block(giveBack(0)))
	}
	want := nested()
	want.Regs = []int{1, 2, 1, 1, 1}
	want.Blocks[2].Ins[0].Dst = 2
	want.Blocks[3].Phis = []api.Phi{phi(3, 0, 2)}
	want.Blocks[5] = withPhis(block(giveBack(4)), phi(4, 3, 0))
	build.Builds(t, "of a phi", nested(), want)
	want.Blocks[3] = block(jump(5), constant(3, 6))
	build.Builds(t, "not wanted between", nested(constant(0, 6)), want)
}

// P12.1: what goes round needs a phi where a loop begins.
func TestLoops(t *testing.T) {
	build.Builds(t, "sum", sample.Sum(), function(1, api.TypeInt, []int{1, 1, 1, 1, 1, 2, 1, 1, 1},
		block(jump(1), constant(1, 0), constant(2, 0)),
		withPhis(block(branch(5, 2, 3), op(api.OpLt, 5, 3, 0)), phi(3, 1, 8), phi(4, 2, 7)),
		block(jump(1), constant(6, 1), add(7, 4, 3), add(8, 3, 6)),
		block(giveBack(4))))
	itself := func(regs []int, back int, phis []api.Phi, ins ...api.Instr) api.Func {
		return function(2, api.TypeInt, regs, block(jump(1)), withPhis(block(branch(1, 1, 2), ins...), phis...), block(giveBack(back)))
	}
	build.Builds(t, "by itself", itself([]int{1, 2}, 0, nil, add(0, 0, 0)),
		itself([]int{1, 2, 1, 1}, 3, []api.Phi{phi(2, 0, 3)}, add(3, 2, 2)))
	build.Builds(t, "made anew each time", itself([]int{1, 2, 1}, 2, nil, constant(2, 5), add(2, 2, 0)),
		itself([]int{1, 2, 1, 1}, 3, nil, constant(2, 5), add(3, 2, 0)))
	build.Builds(t, "changing places", itself([]int{1, 2, 1, 1}, 2, nil, dup(3, 0), dup(0, 2), dup(2, 3)), func() api.Func {
		f := itself([]int{1, 2, 1, 1, 1, 1, 1, 1}, 7, []api.Phi{phi(3, 0, 6), phi(4, 2, 7)}, dup(5, 3), dup(6, 4), dup(7, 5))
		f.Blocks[0].Ins = []api.Instr{constant(2, 0)}
		return f
	}())
	build.Builds(t, "a loop in a loop",
		function(2, api.TypeInt, []int{1, 2}, block(jump(1)), block(jump(2)), block(branch(1, 2, 3), add(0, 0, 0)), block(branch(1, 1, 4)), block(giveBack(0))),
		function(2, api.TypeInt, []int{1, 2, 1, 1, 1}, block(jump(1)), withPhis(block(jump(2)), phi(2, 0, 4)),
			withPhis(block(branch(1, 2, 3), add(4, 3, 3)), phi(3, 2, 4)), block(branch(1, 1, 4)), block(giveBack(4))))
	build.Builds(t, "two entries",
		function(2, api.TypeInt, []int{1, 2}, block(branch(1, 1, 2)), block(branch(1, 2, 3), add(0, 0, 0)), block(jump(1)), block(giveBack(0))),
		function(2, api.TypeInt, []int{1, 2, 1, 1, 1}, block(branch(1, 1, 2)), withPhis(block(branch(1, 2, 3), add(3, 2, 2)), phi(2, 0, 4)),
			withPhis(block(jump(1)), phi(4, 0, 3)), block(giveBack(3))))
}

// P12.1: new registers' numbers rise block by block, by the blocks' numbers,
// though a block's nearest may be behind it.
func TestNumbers(t *testing.T) {
	build.Builds(t, "downwards",
		function(0, api.TypeInt, ints(1), block(jump(3), constant(0, 4)), block(giveBack(0), out(0), constant(0, 7)),
			block(jump(1), out(0), constant(0, 6)), block(jump(2), out(0), constant(0, 5))),
		function(0, api.TypeInt, ints(4), block(jump(3), constant(0, 4)), block(giveBack(1), out(2), constant(1, 7)),
			block(jump(1), out(3), constant(2, 6)), block(jump(2), out(0), constant(3, 5))))
	build.Builds(t, "a parting behind where it meets",
		function(2, api.TypeInt, []int{1, 2}, block(jump(4), add(0, 0, 0)), block(giveBack(0)), block(jump(1), out(0)), block(jump(1), out(0), dup(0, 0)), block(branch(1, 2, 3), add(0, 0, 0))),
		function(2, api.TypeInt, []int{1, 2, 1, 1, 1, 1}, block(jump(4), add(2, 0, 0)), withPhis(block(giveBack(3)), phi(3, 5, 4)),
			block(jump(1), out(5)), block(jump(1), out(5), dup(4, 5)), block(branch(1, 2, 3), add(5, 2, 2))))
}

// P12.1: new registers are of their old ones' types; a branch asks the version
// that is there.
func TestTypes(t *testing.T) {
	not := func(dst, arg int) api.Instr { return op(api.OpNot, dst, arg) }
	build.Builds(t, "a bool", function(1, api.TypeBool, []int{2, 1, 2}, block(branch(0, 1, 2), not(0, 0)), block(jump(2), constant(2, 1), not(0, 0)),
		block(branch(0, 3, 4)), block(giveBack(0), dup(2, 0)), block(giveBack(2))),
		function(1, api.TypeBool, []int{2, 2, 2, 2, 2, 2, 2, 2}, block(branch(2, 1, 2), constant(1, 0), not(2, 0)), block(jump(2), constant(3, 1), not(4, 2)),
			withPhis(block(branch(5, 3, 4)), phi(5, 2, 4), phi(6, 1, 3)), block(giveBack(5), dup(7, 5)), block(giveBack(6))))
}

// P12.1, P12.3: blocks that aren't reached go, with what they make and want.
func TestNotReached(t *testing.T) {
	build.Builds(t, "one ahead", function(1, api.TypeInt, ints(1), block(jump(2)), block(jump(2), constant(0, 9)), block(giveBack(0))),
		function(1, api.TypeInt, ints(1), block(jump(1)), block(giveBack(0))))
	build.Builds(t, "one of three ahead",
		function(2, api.TypeInt, []int{1, 2, 1}, block(branch(1, 2, 4)), block(branch(1, 3, 2), constant(0, 8), constant(2, 8), out(2)), block(jump(3), constant(0, 5)),
			block(giveBack(0)), block(jump(3))),
		function(2, api.TypeInt, []int{1, 2, 1, 1}, block(branch(1, 1, 3)), block(jump(2), constant(2, 5)), withPhis(block(giveBack(3)), phi(3, 2, 0)), block(jump(2))))
	build.Builds(t, "wanted there alone",
		function(0, api.TypeNone, []int{1, 1, 2}, block(giveBack(-1)), block(branch(2, 1, 2), out(0)), block(giveBack(-1), out(1))),
		sample.Quiet(0))
	build.Builds(t, "a loop there", function(0, api.TypeNone, ints(2), block(giveBack(-1)), block(jump(2), out(0)), block(jump(1), add(0, 0, 1))), sample.Quiet(0))
}

// P12.1: of many functions the one that is asked for is built.
func TestWhichFunc(t *testing.T) {
	var m api.Module
	for i := range api.MaxFuncs {
		m.Funcs = append(m.Funcs, straight(1, 9, 1+i%8, constant(1+i%8, int64(i)), call((i+7)%api.MaxFuncs, 0, 1+i%8)))
	}
	for i := range m.Funcs {
		build.Is(t, fmt.Sprint("function ", i), m, i, straight(1, 3, 1, constant(1, int64(i)), call((i+7)%api.MaxFuncs, 2, 1)))
	}
	build.Refuses(t, "as many as there may be", m, api.MaxFuncs, api.ErrArg)
}
