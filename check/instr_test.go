package check

import (
	"fmt"
	"math"
	"testing"

	"fettle/api"
)

// about is a module whose first function holds one instruction, over three
// ints, then three bools. Function 1 is of an int and a bool, and returns an
// int; 2 is of an int, and returns nothing; 3 is of nothing, and returns a
// bool; 4 is of a bool, and has more parameters than a proper one may.
func about(in api.Instr) api.Module {
	first := quiet(0)
	first.Regs = []int{1, 1, 1, 2, 2, 2}
	first.Blocks[0].Ins = []api.Instr{in}
	many := quiet(9)
	many.Params = 9
	return module(first,
		api.Func{Params: 2, Result: api.TypeInt, Regs: []int{1, 2, 1}, Blocks: []api.Block{{Term: giveBack(0)}}},
		api.Func{Params: 1, Regs: []int{1, 2}, Blocks: []api.Block{{Term: giveBack(-1)}}},
		api.Func{Result: api.TypeBool, Regs: []int{2}, Blocks: []api.Block{{Term: giveBack(0)}}},
		many,
	)
}

// wantInstr wants it of an instruction.
func wantInstr(t *testing.T, in api.Instr, want api.Code) {
	t.Helper()
	wantItself(t, fmt.Sprintf("%+v", in), Func(about(in), 0), want)
}

// table is an instruction of each row of the chapter's table, and more where
// a row has more than one.
func table() []api.Instr {
	list := []api.Instr{
		{Op: api.OpConst, Dst: 2, Imm: 7},
		{Op: api.OpConst, Dst: 2, Imm: math.MinInt64},
		{Op: api.OpConst, Dst: 0},
		{Op: api.OpConst, Dst: 5},
		{Op: api.OpConst, Dst: 5, Imm: 1},
		{Op: api.OpCopy, Dst: 2, Args: []int{0}},
		{Op: api.OpCopy, Dst: 2, Args: []int{2}},
		{Op: api.OpCopy, Dst: 5, Args: []int{3}},
		{Op: api.OpLt, Dst: 3, Args: []int{0, 1}},
		{Op: api.OpEq, Dst: 5, Args: []int{1, 1}},
		{Op: api.OpNot, Dst: 5, Args: []int{3}},
		{Op: api.OpNot, Dst: 3, Args: []int{3}},
		{Op: api.OpLoad, Dst: 2, Args: []int{0}},
		{Op: api.OpStore, Dst: -1, Args: []int{0, 2}},
		{Op: api.OpCall, Dst: 2, Args: []int{0, 3}, Fun: 1},
		{Op: api.OpCall, Dst: -1, Args: []int{2}, Fun: 2},
		{Op: api.OpCall, Dst: 5, Fun: 3},
		{Op: api.OpCall, Dst: -1, Fun: 0},
		{Op: api.OpCall, Dst: -1, Args: make([]int, 9), Fun: 4},
		{Op: api.OpOut, Dst: -1, Args: []int{2}},
	}
	for op := api.OpAdd; op <= api.OpDiv; op++ {
		list = append(list, api.Instr{Op: op, Dst: 2, Args: []int{0, 1}})
	}
	return list
}

// hasDst tells whether an instruction of the table has a Dst.
func hasDst(in api.Instr) bool { return in.Dst >= 0 }

// withArg is an instruction with another Arg.
func withArg(in api.Instr, at, arg int) api.Instr {
	in.Args = append([]int(nil), in.Args...)
	in.Args[at] = arg
	return in
}

// other is a register of the other type.
func other(reg int) int { return (reg + 3) % 6 }

// P2.1: what the table has is proper, each of its operations among it.
func TestTable(t *testing.T) {
	seen := map[int]int{}
	for _, in := range table() {
		wantInstr(t, in, 0)
		seen[in.Op]++
	}
	if len(seen) != api.OpOut {
		t.Error("operations: ", seen)
	}
}

// P2.1: another Op.
func TestOtherOp(t *testing.T) {
	for _, op := range append([]int{0, 19, 20, 256}, far...) {
		for _, in := range table() {
			in.Op = op
			wantInstr(t, in, api.ErrShape)
		}
	}
}

// P2.1: too few and too many Args, whether they are there and fit or not.
func TestHowManyArgs(t *testing.T) {
	for _, in := range table() {
		n := len(in.Args)
		for many := range 12 {
			if many == n {
				continue
			}
			few := in
			few.Args = append(append([]int(nil), in.Args...), make([]int, 12)...)[:many]
			wantInstr(t, few, api.ErrShape)
			few.Dst, few.Imm = 6, 9
			wantInstr(t, few, api.ErrShape)
			for _, reg := range append([]int{3, 6}, far...) {
				if many > 0 {
					wantInstr(t, withArg(few, many-1, reg), api.ErrShape)
				}
			}
		}
	}
}

// P2.1: registers that aren't there, whether all else fits or not.
func TestMissingRegisters(t *testing.T) {
	for _, in := range table() {
		for _, reg := range append([]int{6, 7, 256}, far...) {
			for at := range in.Args {
				miss := withArg(in, at, reg)
				wantInstr(t, miss, api.ErrNone)
				wantInstr(t, withArg(miss, len(in.Args)-1-at, reg), api.ErrNone)
				for i := range in.Args {
					if i != at {
						wantInstr(t, withArg(miss, i, other(in.Args[i])), api.ErrNone)
					}
				}
				miss.Imm = 3
				wantInstr(t, miss, api.ErrNone)
				miss.Dst = 6
				wantInstr(t, miss, api.ErrNone)
			}
			if !hasDst(in) {
				continue
			}
			miss := in
			miss.Dst = reg
			wantInstr(t, miss, api.ErrNone)
			for at := range in.Args {
				wantInstr(t, withArg(miss, at, other(in.Args[at])), api.ErrNone)
			}
			miss.Imm = 3
			wantInstr(t, miss, api.ErrNone)
			if in.Op != api.OpCall {
				miss.Fun = 1
				wantInstr(t, miss, api.ErrNone)
			}
		}
	}
}

// P2.1: types of Args that don't fit.
func TestTypesOfArgs(t *testing.T) {
	for _, in := range table() {
		for at, reg := range in.Args {
			wantInstr(t, withArg(in, at, other(reg)), api.ErrType)
		}
	}
}

// P2.1: a Dst of the other type, or where there is none.
func TestTypesOfDst(t *testing.T) {
	for _, in := range table() {
		if hasDst(in) {
			was := in.Dst
			in.Dst = other(was)
			want := api.ErrType
			if in.Op == api.OpConst && (in.Imm == 0 || in.Imm == 1) {
				want = 0
			}
			wantInstr(t, in, want)
			continue
		}
		for _, reg := range append([]int{0, 1, 3, 5, 6, 256}, far...) {
			if reg != -1 {
				in.Dst = reg
				wantInstr(t, in, api.ErrType)
			}
		}
	}
}

// P2.1: which constants a bool may be.
func TestConstants(t *testing.T) {
	for _, imm := range []int64{-2, -1, 0, 1, 2, 3, 1 << 32, 1<<32 + 1, math.MinInt64, math.MaxInt64} {
		wantInstr(t, api.Instr{Op: api.OpConst, Dst: 0, Imm: imm}, 0)
		want := api.ErrType
		if imm == 0 || imm == 1 {
			want = 0
		}
		wantInstr(t, api.Instr{Op: api.OpConst, Dst: 4, Imm: imm}, want)
	}
}

// P2.1: Imm and Fun other than 0 where there is no use for them.
func TestImmAndFun(t *testing.T) {
	for _, in := range table() {
		for _, n := range append([]int{1, 2}, far...) {
			if in.Op != api.OpConst {
				with := in
				with.Imm = int64(n)
				wantInstr(t, with, api.ErrType)
			}
			if in.Op != api.OpCall {
				with := in
				with.Fun = n
				wantInstr(t, with, api.ErrType)
			}
		}
	}
}

// P2.1: calls of functions that aren't there, whatever else is amiss.
func TestCallOfNone(t *testing.T) {
	for _, fun := range append([]int{5, 6, 32}, far...) {
		for _, in := range table() {
			in.Op, in.Fun = api.OpCall, fun
			wantInstr(t, in, api.ErrNone)
			in.Args, in.Dst, in.Imm = []int{-1, 6, 7, 8}, 6, 5
			wantInstr(t, in, api.ErrNone)
		}
	}
}

// ofOddCall is the order of the chapter, for a call of a function with more
// parameters than registers, or fewer than none: ErrType comes last.
func ofOddCall(args []int, params int, dstIsMissing bool) api.Code {
	if len(args) != params {
		return api.ErrShape
	}
	for _, reg := range args {
		if reg < 0 || reg > 5 {
			return api.ErrNone
		}
	}
	if dstIsMissing {
		return api.ErrNone
	}
	return api.ErrType
}

// oddArgs are lists of so many Args: all there, or all but one.
func oddArgs(many int) [][]int {
	lists := [][]int{make([]int, many)}
	for at := range many {
		for _, reg := range append([]int{3, 5, 6, 9}, far...) {
			list := make([]int, many)
			list[at] = reg
			lists = append(lists, list)
		}
	}
	return lists
}

// wantOddCall wants it of a call of function 2, which has two registers, and
// so many parameters.
func wantOddCall(t *testing.T, args []int, params int) {
	t.Helper()
	for _, result := range []int{api.TypeNone, api.TypeInt} {
		for _, dst := range []int{-1, 0, 3, 6} {
			for imm := range int64(2) {
				m := about(api.Instr{Op: api.OpCall, Dst: dst, Args: args, Imm: imm, Fun: 2})
				m.Funcs[2].Params, m.Funcs[2].Result = params, result
				missing := result != api.TypeNone && (dst < 0 || dst > 5)
				what := fmt.Sprint(params, " parameters, ", args, ", result ", result, ", Dst ", dst)
				wantFunc(t, what, m, ofOddCall(args, params, missing))
			}
		}
	}
}

// P2.1, R1: calls of functions that have fewer registers than parameters, or
// fewer parameters than none, whatever else is amiss or isn't.
func TestCallOfOddParams(t *testing.T) {
	for _, params := range append([]int{3, 4, 8, 9, 10, -3}, far...) {
		for many := range 12 {
			for _, args := range oddArgs(many) {
				wantOddCall(t, args, params)
			}
		}
	}
}

// P2.1, R1: the same of a function without registers, behind the caller and
// ahead of it.
func TestCallOfOddParamsWithoutRegisters(t *testing.T) {
	for _, c := range []struct {
		params int
		args   []int
		want   api.Code
	}{
		{1, nil, api.ErrShape}, {1, []int{0, 0}, api.ErrShape}, {1, []int{5}, api.ErrNone},
		{1, []int{-1}, api.ErrNone}, {1, []int{0}, api.ErrType}, {2, []int{0, 0}, api.ErrType},
		{2, []int{0, 5}, api.ErrNone}, {2, []int{5}, api.ErrShape},
		{-1, nil, api.ErrShape}, {-1, []int{0}, api.ErrShape}, {-1, []int{5}, api.ErrShape},
	} {
		what := fmt.Sprint(c.params, " parameters, ", c.args)
		caller, callee := quiet(1), quiet(0)
		callee.Params = c.params
		caller.Blocks[0].Ins = []api.Instr{{Op: api.OpCall, Dst: -1, Args: c.args, Fun: 1}}
		wantFunc(t, what, module(caller, callee), c.want)
		caller.Blocks[0].Ins[0].Fun = 0
		wantItself(t, what, Func(module(callee, caller), 1), c.want)
		wantFunc(t, what+", called", module(callee, caller), api.ErrType)
	}
}

// P2.1: a function that calls itself, and whose parameters are at fault, is
// told so by rule 2, ahead of the call.
func TestCallOfItselfWithOddParams(t *testing.T) {
	for _, params := range append([]int{2, 3, 9}, far...) {
		for many := range 4 {
			f := quiet(1)
			f.Params = params
			f.Blocks[0].Ins = []api.Instr{{Op: api.OpCall, Dst: -1, Args: make([]int, many)}}
			wantFunc(t, fmt.Sprint(params, " parameters, ", many, " Args"), module(f), api.ErrType)
		}
	}
}

// P2.1: calls of functions whose types are none.
func TestCallOfOddTypes(t *testing.T) {
	for _, typ := range append([]int{0, 3, 4}, far...) {
		for reg := range 6 {
			m := about(api.Instr{Op: api.OpCall, Dst: -1, Args: []int{reg}, Fun: 2})
			m.Funcs[2].Regs[0] = typ
			wantFunc(t, fmt.Sprint("parameter of type ", typ), m, api.ErrType)
			m = about(api.Instr{Op: api.OpCall, Dst: reg, Args: []int{0}, Fun: 2})
			m.Funcs[2].Result = typ
			wantFunc(t, fmt.Sprint("result of type ", typ), m, api.ErrType)
		}
		if typ != api.TypeNone {
			m := about(api.Instr{Op: api.OpCall, Dst: -1, Args: []int{0}, Fun: 2})
			m.Funcs[2].Result = typ
			wantFunc(t, fmt.Sprint("result of type ", typ), m, api.ErrNone)
		}
	}
}

// P2.1: a call needs no more of the function called than what it is of.
func TestCallOfOddFunc(t *testing.T) {
	m := about(api.Instr{Op: api.OpCall, Dst: -1, Args: []int{0}, Fun: 2})
	m.Funcs[2].Blocks = nil
	wantItself(t, "a call of one without blocks", Func(m, 0), 0)
	wantSpot(t, "a call of one without blocks", Module(m), 2, api.ErrLarge)
}
