package proper_test

import (
	"errors"
	"fmt"
	"slices"
	"testing"

	"fettle/api"
	"fettle/check"
	"fettle/proper"
	"fettle/sample"
)

// form tells of the form as what builds a function does, but builds none.
var form = sample.Builder(func(m api.Module, f int) (api.Func, error) { return api.Func{}, proper.Form(m, f) })

// P13.1: no such function.
func TestNoSuchFunc(t *testing.T) {
	form.RefusesNone(t, sample.Quiet(2), straight(1, 1, 0), sample.Endless())
}

// apart is a function with blocks of these Tos, of no registers; the first one
// leads nowhere.
func apart(tos ...[]int) api.Func {
	f := function(1, 0, []int{2}, block(giveBack(-1)))
	for _, to := range tos {
		f.Blocks = append(f.Blocks, block([]api.Term{giveBack(-1), jump(to...), branch(0, to...)}[len(to)]))
	}
	return f
}

// P13.1: all blocks have to be reached.
func TestNotReached(t *testing.T) {
	is(t, "one block", apart())
	isNot(t, "one that returns", apart(nil), api.ErrShape)
	isNot(t, "one that goes round", apart([]int{1}), api.ErrShape)
	isNot(t, "two that go round", apart([]int{2}, []int{1}), api.ErrShape)
	isNot(t, "as many as there may be", apart(slices.Repeat([][]int{{1, 2}}, api.MaxBlocks-1)...), api.ErrShape)
	row := apart()
	for b := range api.MaxBlocks - 1 {
		row.Blocks[b].Term = jump(b + 1)
		row.Blocks = append(row.Blocks, block(giveBack(-1)))
	}
	is(t, "a row", row)
	row.Blocks[api.MaxBlocks-2].Term = giveBack(-1)
	isNot(t, "the last one", row, api.ErrShape)
	for b := 1; b < 7; b++ {
		f := web()
		f.Blocks = append(f.Blocks, block(jump(b)))
		isNot(t, fmt.Sprint("one that leads to block ", b), f, api.ErrShape)
		f.Blocks[0].Term.To[1] = 7
		f.Blocks[1].Term = branch(0, 2, 3)
		is(t, fmt.Sprint("it is reached, and leads to block ", b), f)
	}
}

// P13.1, R1: modules that aren't proper are told as check.Module tells them,
// whatever the function that is asked for: the one at fault, another one, one
// that is of no such form itself, or one that isn't there.
func TestNotProper(t *testing.T) {
	form.RefusesAs(t, check.Module, sample.NotProper(), straight(1, 1, 0), sample.Sum(), apart(nil))
}

// P13.1, R1: of several faults the one is told that comes first there: blocks
// that aren't reached, registers made more than once, ones named too soon;
// wherever they are, and however low the registers.
func TestFaultsInOrder(t *testing.T) {
	const soonOf, againOf, parameter = 2, 3, 1
	f := straight(2, 4, 0, out(soonOf))
	soon(t, "named too soon", f, soonOf)
	f.Blocks[0].Ins = append(f.Blocks[0].Ins, constant(againOf, 1), constant(againOf, 2))
	again(t, "and made again", f, againOf)
	f.Blocks[0].Ins = append(f.Blocks[0].Ins, constant(parameter, 1))
	again(t, "and a parameter made", f, parameter)
	f.Blocks = append(f.Blocks, block(giveBack(0)))
	isNot(t, "and a block that isn't reached", f, api.ErrShape)
	f.Blocks = append(f.Blocks, block(jump(0)))
	formIs(t, "and what isn't proper", module(f), 0, at(0, api.ErrShape))
	one := straight(0, 2, 1, constant(0, 1), constant(0, 2))
	again(t, "the lower one made again", one, 0)
	for _, beside := range []api.Block{block(giveBack(1), constant(0, 1)), block(jump(1), out(1))} {
		f := straight(0, 2, 0, constant(0, 1))
		is(t, "without a block beside", f)
		f.Blocks = append(f.Blocks, beside)
		isNot(t, "what is wrong is beside", f, api.ErrShape)
	}
}

// P13.1: a module's error is At the function that is at fault, whichever is
// asked for.
func TestPlaceOfFault(t *testing.T) {
	m := module(sample.Sum(), straight(1, 1, 0), straight(0, 1, 5))
	for f := range 3 {
		formIs(t, "the third one isn't proper", m, f, at(2, api.ErrNone))
	}
}

// P13.1: as many blocks, registers and instructions as there may be.
func TestMost(t *testing.T) {
	row := function(0, api.TypeInt, ints(api.MaxRegs-api.MaxBlocks))
	for b := range api.MaxBlocks {
		row.Blocks = append(row.Blocks, block(jump(b+1)))
		for range 3 {
			row.Blocks[b].Ins = append(row.Blocks[b].Ins, constant(0, 1))
		}
	}
	row.Blocks[api.MaxBlocks-1].Term = giveBack(0)
	for r := range row.Regs {
		made := &row.Blocks[r/3].Ins[r%3]
		if *made = constant(r, 1); r > 0 {
			*made = add(r, r-1, 0)
		}
	}
	is(t, "each of the one ahead", row)
	last := sample.Copy(row)
	last.Blocks[0].Ins[1] = add(1, 0, len(row.Regs)-1)
	soon(t, "one of the last one", last, len(row.Regs)-1)
	last.Blocks[api.MaxBlocks-1].Ins[2].Dst = 0
	again(t, "the last one makes the first one", last, 0)
	regs := straight(0, api.MaxRegs, 254)
	for r := range api.MaxIns - 1 {
		regs.Blocks[0].Ins = append(regs.Blocks[0].Ins, constant(r, 1))
	}
	is(t, "all but one made", regs)
	regs.Blocks[0].Term.Arg = api.MaxRegs - 1
	soon(t, "the one that isn't", regs, api.MaxRegs-1)
	regs.Blocks[0].Ins[0].Dst = 254
	again(t, "the last one twice", regs, 254)
}

// R2: the place of a fault is new memory.
func TestSpotIsNew(t *testing.T) {
	for want, f := range map[int]api.Func{
		1: sample.Sum(),
		2: straight(2, 3, 0, constant(2, 1), constant(2, 2)),
		0: {},
	} {
		for range 2 {
			var s *api.Spot
			if err := proper.Form(module(f), 0); !errors.As(err, &s) || s.At != want || !slices.Contains([]error{api.ErrNone, api.ErrState, api.ErrLarge}, s.Err) {
				t.Fatal(err)
			}
			s.At, s.Err = 99, nil
		}
	}
}
