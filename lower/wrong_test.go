package lower_test

import (
	"fmt"
	"slices"
	"testing"

	"fettle/api"
	"fettle/check"
	"fettle/proper"
	"fettle/sample"
)

// P14.1, R3: no such function.
func TestNoSuchFunc(t *testing.T) {
	build.RefusesNone(t, sample.Quiet(2), straight(1, 1, 0), sample.Endless())
}

// notOfForm are functions that make modules of another form.
func notOfForm() []api.Func {
	return []api.Func{
		sample.Sum(),
		straight(1, 1, 0, constant(0, 1)),
		straight(0, 1, 0),
		straight(0, 2, 1, add(1, 0, 0), constant(0, 1)),
		function(0, 0, nil, block(giveBack(-1)), block(giveBack(-1))),
		round(ints(2), false, 3, phi(3, 1, 2), phi(3, 1, 2)),
		round(ints(2), false, 3, phi(3, 4, 2)),
		round(ints(2), true, 4, phi(3, 1, 2)),
		round(append(ints(1), 2), true, 3, phi(3, 1, 2), phi(4, 0, 4), phi(1, 1, 2)),
	}
}

// P14.1, R1, R3: functions of another form are refused as proper.Form does, at
// the same register.
func TestNotOfForm(t *testing.T) {
	for i, f := range notOfForm() {
		for n, m := range []api.Module{module(f), module(straight(1, 1, 0), f), module(sample.Endless(), sample.Sum(), f)} {
			want := proper.Form(m, n)
			if want == nil || check.Module(m) != nil {
				t.Error("of the form, or not proper: ", i)
			}
			build.Refuses(t, fmt.Sprint("not of the form ", i), m, n, want)
		}
	}
}

// P14.1, R1, R3: modules that aren't proper are refused as check.Module does,
// whatever the function that is asked for: the one at fault, one of another
// form, one that would get too large, or one that isn't there.
func TestNotProper(t *testing.T) {
	build.RefusesAs(t, check.Module, sample.NotProper(), straight(1, 1, 0), sample.Sum(), ofItems(api.MaxIns+1))
}

// within holds that a function is built, to so many blocks, registers, and
// instructions and ends.
func within(t *testing.T, what string, f api.Func, blocks, regs, items int) {
	t.Helper()
	g := build.Built(t, what, module(f), 0)
	count := len(g.Blocks)
	for _, b := range g.Blocks {
		count += len(b.Ins)
	}
	if len(g.Blocks) != blocks || len(g.Regs) != regs || count != items {
		t.Errorf("%s: %d blocks, %d registers, %d instructions and ends, want %d, %d and %d", what, len(g.Blocks), len(g.Regs), count, blocks, regs, items)
	}
}

// tooLarge holds that a function, of the form itself, would get too large.
func tooLarge(t *testing.T, what string, f api.Func) {
	t.Helper()
	if err := proper.Form(module(f), 0); err != nil {
		t.Errorf("%s: not of the form: %v", what, err)
	}
	build.Refuses(t, what, module(f), 0, api.ErrLarge)
	build.Refuses(t, what+", and another one", module(straight(1, 1, 0), f), 1, api.ErrLarge)
	build.Built(t, what+", and another one", module(straight(1, 1, 0), f), 0)
	build.Refuses(t, what+", but no such function", module(f), 1, api.ErrArg)
	f.Blocks = append(f.Blocks, block(giveBack(1)))
	build.Refuses(t, what+", and a block that isn't reached", module(f), 0, proper.Form(module(f), 0))
}

// ofItems is a function that comes to so many instructions and ends, of which
// two are copies and one is a block more.
func ofItems(items int) api.Func {
	f := round(ints(1), false, 3, phi(3, 1, 2))
	f.Blocks[1].Ins = slices.Repeat([]api.Instr{out(1)}, items-6)
	return f
}

// P14.1: MaxIns instructions and ends, and one more.
func TestMostItems(t *testing.T) {
	within(t, "a phi", ofItems(api.MaxIns), 4, 4, api.MaxIns)
	tooLarge(t, "a phi", ofItems(api.MaxIns+1))
	most := straight(1, 1, 0, slices.Repeat([]api.Instr{out(0)}, api.MaxIns-1)...)
	within(t, "no phis", most, 1, 1, api.MaxIns)
	alone := function(1, api.TypeInt, ints(2), block(jump(1)), withPhis(block(giveBack(0), slices.Repeat([]api.Instr{out(0)}, api.MaxIns-3)...), phi(1, 0)))
	within(t, "as many copies as phis", alone, 2, 2, api.MaxIns)
	fewer := function(0, api.TypeNone, ints(9), withPhis(block(giveBack(-1)), phi(0), phi(1), phi(2)))
	within(t, "fewer than phis", fewer, 1, 9, 1)
	both := meeting(ints(84), nil, nil, block(giveBack(1)))
	for r := 3; r < 87; r++ {
		both.Blocks[3].Phis = append(both.Blocks[3].Phis, phi(r, 1, 2))
	}
	both.Blocks[3].Ins = slices.Repeat([]api.Instr{out(1)}, api.MaxIns-4-2*84)
	within(t, "many copies", both, 4, 87, api.MaxIns)
	both.Blocks[3].Ins = append(both.Blocks[3].Ins, out(1))
	tooLarge(t, "many copies", both)
	ring := round(ints(2), true, 3, phi(3, 1, 4), phi(4, 2, 3))
	ring.Blocks[1].Ins = slices.Repeat([]api.Instr{out(1)}, api.MaxIns-9)
	within(t, "a ring", ring, 4, 6, api.MaxIns)
	ring.Blocks[1].Ins = append(ring.Blocks[1].Ins, out(1))
	tooLarge(t, "a ring", ring)
	stays := round(ints(1), false, 3, phi(3, 1, 3))
	stays.Blocks[1].Ins = slices.Repeat([]api.Instr{out(1)}, api.MaxIns-5)
	within(t, "what isn't copied to itself", stays, 4, 4, api.MaxIns)
	stays.Blocks[1].Ins = append(stays.Blocks[1].Ins, out(1))
	tooLarge(t, "what isn't copied to itself", stays)
}

// P14.1: MaxRegs registers, and one more.
func TestMostRegs(t *testing.T) {
	turned := []api.Phi{phi(3, 1, 4), phi(4, 2, 3)}
	within(t, "a ring", round(ints(252), true, 3, turned...), 4, api.MaxRegs, 9)
	tooLarge(t, "a ring", round(ints(253), true, 3, turned...))
	tooLarge(t, "a ring, by a new block", round(ints(253), false, 3, turned...))
	within(t, "no ring", round(ints(253), true, 3, phi(3, 1, 2)), 4, api.MaxRegs, 6)
	two := append(slices.Clone(turned), phi(5, 1, 6), phi(6, 2, 5))
	within(t, "two rings", round(ints(251), false, 3, two...), 4, api.MaxRegs, 14)
	tooLarge(t, "two rings", round(ints(252), false, 3, two...))
	within(t, "none", sample.Quiet(api.MaxRegs), 1, api.MaxRegs, 1)
}

// row is a function of so many blocks, the first ones of which may leave for
// the last one, that has a phi.
func row(blocks, leave int) api.Func {
	f := function(1, api.TypeBool, []int{2, 2})
	last := blocks - 1
	for b := range last {
		end := jump(b + 1)
		if b < leave {
			end = branch(0, b+1, last)
		}
		f.Blocks = append(f.Blocks, block(end))
	}
	f.Blocks = append(f.Blocks, withPhis(block(giveBack(1)), phi(1, slices.Repeat([]int{0}, leave+1)...)))
	return f
}

// P14.1: MaxBlocks blocks, and one more.
func TestMostBlocks(t *testing.T) {
	within(t, "one edge", row(api.MaxBlocks-1, 1), api.MaxBlocks, 2, api.MaxBlocks+2)
	tooLarge(t, "one edge", row(api.MaxBlocks, 1))
	within(t, "no edge", row(api.MaxBlocks, 0), api.MaxBlocks, 2, api.MaxBlocks+1)
	within(t, "many edges", row(33, 31), api.MaxBlocks, 2, api.MaxBlocks+32)
	tooLarge(t, "many edges", row(34, 31))
	tooLarge(t, "most edges", row(api.MaxBlocks, api.MaxBlocks-2))
}

// R2: the place of a fault is new memory.
func TestSpotIsNew(t *testing.T) {
	bad := module(straight(2, 2, 0), straight(0, 3, 2))
	for range 2 {
		_, err := build(bad, 1)
		s, ok := err.(*api.Spot)
		if !ok || s.At != 2 || s.Err != error(api.ErrNone) {
			t.Fatal(err)
		}
		s.At, s.Err = 99, nil
	}
}
