package run_test

import (
	"slices"
	"testing"

	"fettle/api"
	"fettle/run"
)

func module(l ...api.Func) api.Module { return api.Module{Funcs: l} }

func jump(to ...int) api.Term { return api.Term{Kind: api.TermJump, Arg: -1, To: to} }

func branch(arg int, to ...int) api.Term {
	return api.Term{Kind: api.TermBranch, Arg: arg, To: to}
}

func giveBack(arg int) api.Term { return api.Term{Kind: api.TermReturn, Arg: arg} }

func constant(dst int, imm int64) api.Instr {
	return api.Instr{Op: api.OpConst, Dst: dst, Imm: imm}
}

// op is an instruction of any operation but OpConst and OpCall.
func op(op, dst int, args ...int) api.Instr { return api.Instr{Op: op, Dst: dst, Args: args} }

func out(reg int) api.Instr { return op(api.OpOut, -1, reg) }

func load(dst, at int) api.Instr { return op(api.OpLoad, dst, at) }

func store(at, what int) api.Instr { return op(api.OpStore, -1, at, what) }

func call(fun, dst int, args ...int) api.Instr {
	return api.Instr{Op: api.OpCall, Dst: dst, Args: args, Fun: fun}
}

func block(end api.Term, ins ...api.Instr) api.Block { return api.Block{Ins: ins, Term: end} }

// ints are so many registers, all of them ints.
func ints(n int) []int { return slices.Repeat([]int{api.TypeInt}, n) }

// function is one of these blocks, over registers of these types, that
// returns one of a type.
func function(params, result int, regs []int, blocks ...api.Block) api.Func {
	return api.Func{Params: params, Result: result, Regs: regs, Blocks: blocks}
}

// straight is a function of one block over so many ints, that returns one.
func straight(params, regs, back int, ins ...api.Instr) api.Func {
	return function(params, api.TypeInt, ints(regs), block(giveBack(back), ins...))
}

// quiet is a function that does nothing, of so many registers.
func quiet(regs int) api.Func {
	return function(0, api.TypeNone, ints(regs), block(giveBack(-1)))
}

// sum adds up the numbers below its parameter.
func sum() api.Func {
	return function(1, api.TypeInt, []int{1, 1, 1, 1, 2},
		block(jump(1)),
		block(branch(4, 2, 3), op(api.OpLt, 4, 1, 0)),
		block(jump(1), constant(3, 1), op(api.OpAdd, 2, 2, 1), op(api.OpAdd, 1, 1, 3)),
		block(giveBack(2)),
	)
}

// endless goes round without an end, in a step each time.
func endless() api.Func {
	return function(0, api.TypeNone, nil, block(jump(1)), block(jump(1)))
}

// done is what comes of a run that returned, or trapped.
func done(value int64, steps int, out ...int64) api.Outcome {
	return api.Outcome{Done: true, Value: value, Steps: steps, Out: out}
}

// trapped is what comes of a run that trapped.
func trapped(trap, steps int, out ...int64) api.Outcome {
	return api.Outcome{Done: true, Trap: trap, Steps: steps, Out: out}
}

// stopped is what comes of a run that had no step left.
func stopped(steps int, out ...int64) api.Outcome {
	return api.Outcome{Steps: steps, Out: out}
}

// with is the same with a word of memory.
func with(o api.Outcome, at int, word int64) api.Outcome {
	o.Memory[at] = word
	return o
}

// same tells whether two outcomes are alike.
func same(a, b api.Outcome) bool {
	return a.Done == b.Done && a.Trap == b.Trap && a.Value == b.Value && a.Steps == b.Steps &&
		a.Memory == b.Memory && slices.Equal(a.Out, b.Out)
}

// ran is what comes of a run that isn't refused.
func ran(t *testing.T, what string, m api.Module, f int, args []int64, steps int) api.Outcome {
	t.Helper()
	o, err := run.Run(m, f, args, steps)
	if err != nil {
		t.Fatalf("%s: %v", what, err)
	}
	return o
}

// comes holds that a function comes to that, with so many steps.
func comes(t *testing.T, what string, m api.Module, f int, args []int64, steps int, want api.Outcome) {
	t.Helper()
	if o := ran(t, what, m, f, args, steps); !same(o, want) {
		t.Errorf("%s, %v, %d steps: %+v, want %+v", what, args, steps, o, want)
	}
}

// enough is as many steps as a run may have.
const enough = api.MaxRun

// does holds that a module's first function comes to that: with steps enough,
// with just as many as it takes, and, with one less, to nothing.
func does(t *testing.T, what string, m api.Module, args []int64, want api.Outcome) {
	t.Helper()
	comes(t, what, m, 0, args, enough, want)
	comes(t, what, m, 0, args, want.Steps, want)
	o := ran(t, what, m, 0, args, want.Steps-1)
	if o.Done || o.Trap != 0 || o.Value != 0 || o.Steps != want.Steps-1 {
		t.Errorf("%s, %v, with a step less: %+v", what, args, o)
	}
}

// nothing is what is answered beside an error.
func nothing(o api.Outcome) bool { return same(o, api.Outcome{}) }
