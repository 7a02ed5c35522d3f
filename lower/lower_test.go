package lower_test

import (
	"fmt"
	"slices"
	"testing"

	"fettle/api"
	"fettle/sample"
)

// P14.1, P14.4: a function without phis stays as it is.
func TestNoPhis(t *testing.T) {
	for i, f := range []api.Func{
		sample.Quiet(0), sample.Quiet(3), sample.Endless(),
		straight(1, 1, 0), straight(8, 9, 7), straight(1, 3, 2, out(0), constant(2, 4), dup(1, 2)),
		function(2, api.TypeBool, []int{2, 1, 1}, block(branch(0, 1, 2)), block(giveBack(0)), block(branch(0, 2, 1), load(2, 1), out(2))),
	} {
		build.Builds(t, fmt.Sprint("function ", i), f, f)
	}
}

// P14.1: all else is as it was: what instructions do, numbers, functions that
// are called, a Dst that there isn't.
func TestElseAsItWas(t *testing.T) {
	all := []api.Instr{constant(2, -7), call(1, 3, 1, 2), store(2, 3), load(4, 3), out(4), call(2, -1)}
	f := function(2, api.TypeInt, []int{2, 1, 1, 1, 1}, block(branch(0, 1, 2), all...), block(jump(2)), block(giveBack(3)))
	for o := api.OpAdd; o <= api.OpNot; o++ {
		typ, args := api.TypeInt, []int{1, 2}
		if o >= api.OpLt {
			typ = api.TypeBool
		}
		if o == api.OpNot {
			args = []int{0}
		}
		f.Regs = append(f.Regs, typ)
		f.Blocks[0].Ins = append(f.Blocks[0].Ins, op(o, len(f.Regs)-1, args...))
	}
	m := module(f, straight(2, 2, 0), sample.Quiet(1))
	build.Is(t, "without phis", m, 0, f)
	want := sample.Copy(f)
	r := len(f.Regs)
	f.Regs = append(f.Regs, 1)
	f.Blocks[2].Phis = []api.Phi{phi(r, 1, 3)}
	want.Regs = f.Regs
	want.Blocks[0].Term.To[1] = 3
	want.Blocks[1].Ins = []api.Instr{dup(r, 3)}
	want.Blocks = append(want.Blocks, block(jump(2), dup(r, 1)))
	m.Funcs[0] = f
	build.Is(t, "with a phi", m, 0, want)
}

// meeting is a function of a bool and two ints as parameters, whose two ways
// part and meet again.
func meeting(regs []int, one, other []api.Instr, behind api.Block) api.Func {
	return function(3, api.TypeInt, append([]int{2, 1, 1}, regs...),
		block(branch(0, 1, 2)), block(jump(3), one...), block(jump(3), other...), behind)
}

// P14.1: what leads to phis alone copies the Args that stand for it, ahead of
// its end, behind its instructions.
func TestMeeting(t *testing.T) {
	build.Builds(t, "a phi", meeting([]int{1}, nil, nil, withPhis(block(giveBack(3)), phi(3, 1, 2))),
		meeting([]int{1}, []api.Instr{dup(3, 1)}, []api.Instr{dup(3, 2)}, block(giveBack(3))))
	build.Builds(t, "behind instructions",
		meeting([]int{1, 1, 1}, []api.Instr{constant(3, 5), out(3)}, []api.Instr{add(4, 1, 2)}, withPhis(block(giveBack(5), out(5), out(1)), phi(5, 3, 4))),
		meeting([]int{1, 1, 1}, []api.Instr{constant(3, 5), out(3), dup(5, 3)}, []api.Instr{add(4, 1, 2), dup(5, 4)}, block(giveBack(5), out(5), out(1))))
	build.Builds(t, "phis in their order",
		meeting([]int{1, 2, 1}, nil, nil, withPhis(block(giveBack(3)), phi(5, 1, 1), phi(3, 2, 1), phi(4, 0, 0))),
		meeting([]int{1, 2, 1}, []api.Instr{dup(5, 1), dup(3, 2), dup(4, 0)}, []api.Instr{dup(5, 1), dup(3, 1), dup(4, 0)}, block(giveBack(3))))
	build.Builds(t, "no block ahead: nothing is copied",
		function(1, api.TypeInt, ints(2), withPhis(block(giveBack(0)), phi(1))), straight(1, 2, 0))
	build.Builds(t, "one block ahead",
		function(1, api.TypeInt, ints(2), block(jump(1)), withPhis(block(giveBack(1)), phi(1, 0))),
		function(1, api.TypeInt, ints(2), block(jump(1), dup(1, 0)), block(giveBack(1))))
}

// P14.1: Args stand for the blocks ahead by rising numbers, wherever these are.
func TestArgsOfPhis(t *testing.T) {
	f := function(3, api.TypeInt, []int{2, 1, 1, 1},
		block(branch(0, 4, 2)),
		withPhis(block(giveBack(3)), phi(3, 1, 2, 1)),
		block(branch(0, 3, 1)),
		block(jump(1)),
		block(jump(1)))
	build.Builds(t, "ahead and behind", f, function(3, api.TypeInt, []int{2, 1, 1, 1},
		block(branch(0, 4, 2)),
		block(giveBack(3)),
		block(branch(0, 3, 5)),
		block(jump(1), dup(3, 2)),
		block(jump(1), dup(3, 1)),
		block(jump(1), dup(3, 1))))
	f.Blocks[1].Phis[0].Args = []int{2, 1, 1}
	build.Builds(t, "the first one is split", f, function(3, api.TypeInt, []int{2, 1, 1, 1},
		block(branch(0, 4, 2)),
		block(giveBack(3)),
		block(branch(0, 3, 5)),
		block(jump(1), dup(3, 1)),
		block(jump(1), dup(3, 1)),
		block(jump(1), dup(3, 2))))
}

// P14.1: an edge is split whose block leads to two, if the other one has phis.
func TestSplit(t *testing.T) {
	regs := []int{2, 1, 1, 1, 1}
	with := func(end api.Term, phis ...api.Phi) api.Block { return withPhis(block(end), phis...) }
	build.Builds(t, "the first one",
		function(3, api.TypeInt, regs, block(branch(0, 1, 2)), with(giveBack(3), phi(3, 1, 2)), block(jump(1))),
		function(3, api.TypeInt, regs, block(branch(0, 3, 2)), block(giveBack(3)), block(jump(1), dup(3, 2)), block(jump(1), dup(3, 1))))
	build.Builds(t, "the second one",
		function(3, api.TypeInt, regs, block(branch(0, 1, 2)), block(jump(2)), with(giveBack(3), phi(3, 1, 2))),
		function(3, api.TypeInt, regs, block(branch(0, 1, 3)), block(jump(2), dup(3, 2)), block(giveBack(3)), block(jump(2), dup(3, 1))))
	build.Builds(t, "both, To by To",
		function(3, api.TypeInt, regs, block(branch(0, 2, 1)), with(giveBack(3), phi(3, 1)), with(giveBack(4), phi(4, 2))),
		function(3, api.TypeInt, regs, block(branch(0, 3, 4)), block(giveBack(3)), block(giveBack(4)), block(jump(2), dup(4, 2)), block(jump(1), dup(3, 1))))
	build.Builds(t, "of one block ahead, but with phis",
		function(3, api.TypeInt, regs, block(branch(0, 1, 2)), with(giveBack(3), phi(3, 2)), block(giveBack(1))),
		function(3, api.TypeInt, regs, block(branch(0, 3, 2)), block(giveBack(3)), block(giveBack(1)), block(jump(1), dup(3, 2))))
	build.Builds(t, "many blocks ahead, but no phis",
		function(3, api.TypeInt, regs, block(branch(0, 2, 1)), block(branch(0, 2, 3)), block(jump(3)), block(giveBack(1))),
		function(3, api.TypeInt, regs, block(branch(0, 2, 1)), block(branch(0, 2, 3)), block(jump(3)), block(giveBack(1))))
	build.Builds(t, "block by block",
		function(3, api.TypeInt, regs, block(branch(0, 3, 1)), block(branch(0, 3, 2)), block(branch(0, 2, 3)), with(giveBack(3), phi(3, 1, 2, 1))),
		function(3, api.TypeInt, regs, block(branch(0, 4, 1)), block(branch(0, 5, 2)), block(branch(0, 2, 6)), block(giveBack(3)),
			block(jump(3), dup(3, 1)), block(jump(3), dup(3, 2)), block(jump(3), dup(3, 1))))
}

// round is a function of a bool and two ints as parameters, that goes round in
// a block with these phis: by itself, or by a block more.
func round(regs []int, by bool, back int, phis ...api.Phi) api.Func {
	f := function(3, api.TypeInt, append([]int{2, 1, 1}, regs...),
		block(jump(1)), withPhis(block(branch(0, 1, 2)), phis...), block(giveBack(back)))
	if by {
		f.Blocks[1].Term.To[0] = 3
		f.Blocks = append(f.Blocks, block(jump(1)))
	}
	return f
}

// rounded is what such a one is built to, either way, if these are done ahead
// of it and each time round.
func rounded(regs []int, back int, ahead, again []api.Instr) api.Func {
	return function(3, api.TypeInt, append([]int{2, 1, 1}, regs...),
		block(jump(1), ahead...), block(branch(0, 3, 2)), block(giveBack(back)), block(jump(1), again...))
}

// P14.1: round a loop: an edge that leads back to its own block is split, too.
func TestRound(t *testing.T) {
	for _, by := range []bool{false, true} {
		try := func(what string, regs, more []int, phis []api.Phi, ahead, again []api.Instr) {
			t.Helper()
			f := round(regs, by, 3, phis...)
			want := rounded(slices.Concat(regs, more), 3, ahead, again)
			build.Builds(t, fmt.Sprint(what, ", by a block: ", by), f, want)
		}
		try("one", ints(1), nil, []api.Phi{phi(3, 1, 2)}, []api.Instr{dup(3, 1)}, []api.Instr{dup(3, 2)})
		try("itself", ints(1), nil, []api.Phi{phi(3, 1, 3)}, []api.Instr{dup(3, 1)}, nil)
		try("itself, and the other one", ints(2), nil, []api.Phi{phi(3, 1, 3), phi(4, 2, 3)},
			[]api.Instr{dup(3, 1), dup(4, 2)}, []api.Instr{dup(4, 3)})
		try("passed on, in order", ints(2), nil, []api.Phi{phi(3, 1, 4), phi(4, 2, 1)},
			[]api.Instr{dup(3, 1), dup(4, 2)}, []api.Instr{dup(3, 4), dup(4, 1)})
		try("passed on, the other way round", ints(2), nil, []api.Phi{phi(3, 1, 2), phi(4, 2, 3)},
			[]api.Instr{dup(3, 1), dup(4, 2)}, []api.Instr{dup(4, 3), dup(3, 2)})
		try("two change places", ints(2), ints(1), []api.Phi{phi(3, 1, 4), phi(4, 2, 3)},
			[]api.Instr{dup(3, 1), dup(4, 2)}, []api.Instr{dup(5, 4), dup(4, 3), dup(3, 5)})
		try("three do", ints(3), ints(1), []api.Phi{phi(3, 1, 4), phi(4, 1, 5), phi(5, 2, 3)},
			[]api.Instr{dup(3, 1), dup(4, 1), dup(5, 2)}, []api.Instr{dup(6, 4), dup(4, 5), dup(5, 3), dup(3, 6)})
		try("bools and ints do", []int{1, 2, 1, 2}, []int{1, 2}, []api.Phi{phi(3, 1, 5), phi(4, 0, 6), phi(5, 2, 3), phi(6, 0, 4)},
			[]api.Instr{dup(3, 1), dup(4, 0), dup(5, 2), dup(6, 0)},
			[]api.Instr{dup(7, 5), dup(5, 3), dup(3, 7), dup(8, 6), dup(6, 4), dup(4, 8)})
		try("and one of them goes elsewhere", ints(3), ints(1), []api.Phi{phi(3, 1, 4), phi(4, 2, 3), phi(5, 1, 4)},
			[]api.Instr{dup(3, 1), dup(4, 2), dup(5, 1)}, []api.Instr{dup(5, 4), dup(6, 4), dup(4, 3), dup(3, 6)})
	}
}

// P14.1: an edge is split though nothing is copied there.
func TestNothingToCopy(t *testing.T) {
	want := rounded(ints(1), 3, []api.Instr{dup(3, 1)}, nil)
	build.Builds(t, "a block that leads on alone", round(ints(1), false, 3, phi(3, 1, 3)), want)
}

// P14.1: new registers stand behind all others, block by block by rising
// numbers: those of new blocks behind those of the old ones.
func TestNumbers(t *testing.T) {
	turned := func(to, a, b int) api.Block {
		return withPhis(block(branch(0, to, 3)), phi(a, 1, b), phi(b, 2, a))
	}
	f := function(3, api.TypeInt, []int{2, 1, 1, 1, 1, 1, 1, 1},
		block(branch(0, 1, 2)), turned(1, 3, 4), turned(4, 5, 6), block(giveBack(1)), block(jump(2), constant(7, 1)))
	copies := []api.Instr{dup(3, 1), dup(4, 2)}
	others := []api.Instr{dup(5, 1), dup(6, 2)}
	want := function(3, api.TypeInt, []int{2, 1, 1, 1, 1, 1, 1, 1, 1, 1},
		block(branch(0, 5, 6)), block(branch(0, 7, 3)), block(branch(0, 4, 3)), block(giveBack(1)),
		block(jump(2), constant(7, 1), dup(8, 6), dup(6, 5), dup(5, 8)),
		block(jump(1), copies...), block(jump(2), others...), block(jump(1), dup(9, 4), dup(4, 3), dup(3, 9)))
	build.Builds(t, "an old block's first", f, want)
}

// P14.1: of many functions the one that is asked for is built; others may have
// phis, and needn't be of the form.
func TestWhichFunc(t *testing.T) {
	var m api.Module
	for i := range api.MaxFuncs {
		m.Funcs = append(m.Funcs, round(ints(i+1), i%2 > 0, 1+i%2, phi(3+i, 1, 2)))
	}
	for i := range m.Funcs {
		want := rounded(ints(i+1), 1+i%2, []api.Instr{dup(3+i, 1)}, []api.Instr{dup(3+i, 2)})
		build.Is(t, fmt.Sprint("function ", i), m, i, want)
	}
	again := straight(1, 1, 0, constant(0, 1))
	beside := function(0, 0, nil, block(giveBack(-1)), block(giveBack(-1)))
	build.Is(t, "beside others", module(again, beside, round(ints(1), false, 3, phi(3, 1, 2))), 2,
		rounded(ints(1), 3, []api.Instr{dup(3, 1)}, []api.Instr{dup(3, 2)}))
}
