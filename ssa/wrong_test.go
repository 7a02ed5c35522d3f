package ssa_test

import (
	"slices"
	"testing"

	"fettle/api"
	"fettle/check"
	"fettle/sample"
)

// P12.1, R3: no such function.
func TestNoSuchFunc(t *testing.T) {
	build.RefusesNone(t, sample.Quiet(2), sample.Sum(), sample.Endless())
}

// P12.1, R1, R3: modules that aren't plain are refused as check.Plain does,
// whatever the function that is asked for: the one at fault, another one, one
// that would get too large, or one that isn't there.
func TestNotPlain(t *testing.T) {
	ofPhis := sample.Sum()
	ofPhis.Blocks[1].Phis = []api.Phi{phi(1, 1, 2)}
	ofNothing := straight(1, 1, 0)
	ofNothing.Blocks[0].Phis = []api.Phi{phi(0)}
	beside := function(0, 0, ints(1), block(giveBack(-1)), withPhis(block(giveBack(-1)), phi(0)))
	build.RefusesAs(t, check.Plain, append(sample.NotProper(), ofPhis, ofNothing, beside), sample.Sum(), growing(api.MaxIns+1))
}

// growing is a function that comes to so many instructions and ends, of which
// one is a zero.
func growing(items int) api.Func {
	return straight(0, 1, 0, slices.Repeat([]api.Instr{out(0)}, items-2)...)
}

// round is a function of three blocks that so many registers go round in: it
// comes to that many zeros, phis and instructions that make one, each.
func round(params, many int, besides ...api.Instr) api.Func {
	f := function(params, api.TypeInt, ints(params+many), block(jump(1)), block(branch(0, 1, 2)), block(giveBack(params), besides...))
	f.Regs[0] = api.TypeBool
	for r := params; r < params+many; r++ {
		f.Blocks[1].Ins = append(f.Blocks[1].Ins, add(r, r, r))
	}
	return f
}

// within holds that a function is built, to so many registers, and phis,
// instructions and ends.
func within(t *testing.T, what string, f api.Func, regs, items int) {
	t.Helper()
	g := build.Built(t, what, module(f), 0)
	count := len(g.Blocks)
	for _, b := range g.Blocks {
		count += len(b.Phis) + len(b.Ins)
	}
	if len(g.Regs) != regs || count != items {
		t.Errorf("%s: %d registers, %d phis, instructions and ends, want %d and %d", what, len(g.Regs), count, regs, items)
	}
}

// tooLarge holds that a function, plain itself, would get too large.
func tooLarge(t *testing.T, what string, f api.Func) {
	t.Helper()
	if err := check.Plain(module(f)); err != nil {
		t.Errorf("%s: not plain: %v", what, err)
	}
	build.Refuses(t, what, module(f), 0, api.ErrLarge)
	build.Refuses(t, what+", and another one", module(sample.Sum(), f), 1, api.ErrLarge)
	build.Built(t, what+", and another one", module(sample.Sum(), f), 0)
	build.Refuses(t, what+", but no such function", module(f), 1, api.ErrArg)
}

// P12.1: MaxIns phis, instructions and ends, and one more.
func TestMostIns(t *testing.T) {
	within(t, "a zero", growing(api.MaxIns), 1, api.MaxIns)
	tooLarge(t, "a zero", growing(api.MaxIns+1))
	within(t, "round", round(1, 84), 1+3*84, api.MaxIns-1)
	within(t, "round", round(1, 84, out(1)), 1+3*84, api.MaxIns)
	tooLarge(t, "round", round(1, 84, out(1), out(1)))
	asTheyWere := straight(1, 1, 0, slices.Repeat([]api.Instr{out(0)}, api.MaxIns-1)...)
	within(t, "no zero", asTheyWere, 1, api.MaxIns)
	many := straight(0, 127, 0)
	for r := range 127 {
		many.Blocks[0].Ins = append(many.Blocks[0].Ins, out(r))
	}
	within(t, "many zeros", many, 127, api.MaxIns-1)
	many.Regs = append(many.Regs, 1)
	many.Blocks[0].Ins = append(many.Blocks[0].Ins, out(127))
	tooLarge(t, "many zeros", many)
	beside := growing(api.MaxIns)
	beside.Blocks = append(beside.Blocks, block(giveBack(0)))
	within(t, "a block that isn't reached", beside, 1, api.MaxIns)
}

// P12.1: MaxRegs registers, and one more.
func TestMostRegs(t *testing.T) {
	makes := func(params, many int) api.Func {
		return straight(params, params+1, params, slices.Repeat([]api.Instr{constant(params, 3)}, many)...)
	}
	within(t, "most parameters", makes(8, 248), api.MaxRegs, 249)
	tooLarge(t, "most parameters", makes(8, 249))
	within(t, "no parameters", makes(0, 255), 255, api.MaxIns)
	within(t, "one", makes(1, 255), api.MaxRegs, api.MaxIns)
	tooLarge(t, "two", makes(2, 255))
	three := []api.Instr{constant(9, 1), constant(9, 2), constant(9, 3)}
	within(t, "round", round(8, 82, three[:2]...), api.MaxRegs, 3*82+5)
	tooLarge(t, "round", round(8, 82, three...))
}
