package run_test

import (
	"fmt"
	"math"
	"slices"
	"testing"

	"fettle/api"
)

// P4.1: the chapter's example.
func TestExample(t *testing.T) {
	m := module(straight(1, 1, 0))
	does(t, "the first parameter", m, []int64{7}, done(7, 1))
	comes(t, "the first parameter", m, 0, []int64{7}, 1, done(7, 1))
}

// P4.1: each parameter is where it is told, and the other registers are 0.
func TestEntered(t *testing.T) {
	args := []int64{11, -12, 13, -14, 15, -16, math.MaxInt64, math.MinInt64}
	for reg := range 12 {
		want := int64(0)
		if reg < len(args) {
			want = args[reg]
		}
		does(t, fmt.Sprint("register ", reg), module(straight(8, 12, reg)), args, done(want, 1))
	}
	truth := function(1, api.TypeBool, []int{2, 2}, block(giveBack(0)))
	does(t, "true", module(truth), []int64{1}, done(1, 1))
	does(t, "false", module(truth), []int64{0}, done(0, 1))
	truth.Blocks[0].Term.Arg = 1
	does(t, "another one", module(truth), []int64{1}, done(0, 1))
	does(t, "nothing", module(quiet(3)), nil, done(0, 1))
	does(t, "no registers", module(quiet(0)), []int64{}, done(0, 1))
}

// P4.1: a loop, by how often it goes round.
func TestSum(t *testing.T) {
	for n := range int64(50) {
		does(t, "sum", module(sum()), []int64{n}, done(n*(n-1)/2, int(1+(n+1)*2+n*4+1)))
	}
	does(t, "sum", module(sum()), []int64{-1}, done(0, 4))
	does(t, "sum", module(sum()), []int64{math.MinInt64}, done(0, 4))
}

// P4.1: the function that is named is run, whatever stands beside it.
func TestWhichFunction(t *testing.T) {
	var m api.Module
	for i := range api.MaxFuncs {
		m.Funcs = append(m.Funcs, straight(0, 1, 0, constant(0, int64(100+i))))
	}
	for i := range api.MaxFuncs {
		comes(t, fmt.Sprint("function ", i), m, i, nil, 9, done(int64(100+i), 2))
	}
}

// P4.1: OpConst, of an int and of a bool, once and once more.
func TestConst(t *testing.T) {
	for _, n := range []int64{0, 1, -1, 7, math.MaxInt64, math.MinInt64} {
		does(t, "a constant", module(straight(1, 3, 2, constant(2, n))), []int64{5}, done(n, 2))
		does(t, "a parameter", module(straight(1, 3, 0, constant(0, n))), []int64{5}, done(n, 2))
		does(t, "the last one", module(straight(1, 3, 0, constant(0, 9), constant(0, n))), []int64{5}, done(n, 3))
	}
	truth := function(0, api.TypeBool, []int{1, 2}, block(giveBack(1), constant(1, 1)))
	does(t, "true", module(truth), nil, done(1, 2))
	truth.Blocks[0].Ins = append(truth.Blocks[0].Ins, constant(1, 0))
	does(t, "false", module(truth), nil, done(0, 3))
}

// P4.1: what arith says, of each of its operations of two ints.
func TestOfTwo(t *testing.T) {
	const low, high = math.MinInt64, math.MaxInt64
	for _, x := range []struct {
		op         int
		a, b, want int64
	}{
		{api.OpAdd, 7, 5, 12}, {api.OpAdd, high, 1, low}, {api.OpSub, 7, 5, 2}, {api.OpSub, low, 1, high},
		{api.OpMul, 7, -5, -35}, {api.OpMul, 1 << 32, 1 << 32, 0}, {api.OpAnd, 12, 10, 8},
		{api.OpOr, 12, 10, 14}, {api.OpXor, 12, 10, 6}, {api.OpShl, 3, 2, 12}, {api.OpShl, 1, 65, 2},
		{api.OpShr, -8, 1, -4}, {api.OpShr, 8, 64, 8}, {api.OpDiv, -7, 2, -3}, {api.OpDiv, low, -1, low},
		{api.OpDiv, 0, 5, 0}, {api.OpLt, -1, 0, 1}, {api.OpLt, 0, -1, 0}, {api.OpLt, 3, 3, 0},
		{api.OpEq, 3, 3, 1}, {api.OpEq, 3, 4, 0},
	} {
		f := straight(2, 3, 2, op(x.op, 2, 0, 1))
		if x.op == api.OpLt || x.op == api.OpEq {
			f.Regs[2], f.Result = api.TypeBool, api.TypeBool
		}
		does(t, fmt.Sprint("operation ", x.op), module(f), []int64{x.a, x.b}, done(x.want, 2))
	}
}

// P4.1: an instruction's Dst may be its Arg, and its Args may be one.
func TestOwnArg(t *testing.T) {
	does(t, "twice", module(straight(1, 1, 0, op(api.OpAdd, 0, 0, 0))), []int64{21}, done(42, 2))
	does(t, "a first less a second", module(straight(2, 2, 1, op(api.OpSub, 1, 0, 1))), []int64{50, 8}, done(42, 2))
	does(t, "loaded", module(straight(1, 1, 0, store(0, 0), load(0, 0))), []int64{9}, with(done(9, 3), 9, 9))
}

// P4.1: OpCopy and OpNot.
func TestOfOne(t *testing.T) {
	does(t, "copied", module(straight(1, 2, 1, op(api.OpCopy, 1, 0))), []int64{-9}, done(-9, 2))
	for n := range int64(2) {
		f := function(1, api.TypeBool, []int{2, 2}, block(giveBack(1), op(api.OpNot, 1, 0)))
		does(t, "not", module(f), []int64{n}, done(1-n, 2))
		f.Blocks[0].Ins[0].Op = api.OpCopy
		does(t, "copied", module(f), []int64{n}, done(n, 2))
	}
}

// P4.1: a divisor of 0 traps, behind what was done already.
func TestTrapDiv(t *testing.T) {
	f := straight(2, 3, 2, constant(2, 8), out(0), store(2, 0), op(api.OpDiv, 2, 0, 1), out(2))
	m := module(f)
	does(t, "by 0", m, []int64{7, 0}, with(trapped(api.TrapDiv, 4, 7), 8, 7))
	does(t, "0 by 0", m, []int64{0, 0}, trapped(api.TrapDiv, 4, 0))
	does(t, "by 2", m, []int64{7, 2}, with(done(3, 6, 7, 3), 8, 7))
}

// P4.1: memory has words 0 to 63, all 0 at first; others trap.
func TestMemory(t *testing.T) {
	loads := module(straight(1, 2, 1, constant(1, 5), load(1, 0)))
	stores := module(straight(2, 2, 1, store(0, 1)))
	both := module(straight(2, 3, 2, store(0, 1), load(2, 0)))
	for at := range int64(api.Words) {
		does(t, "loaded", loads, []int64{at}, done(0, 3))
		does(t, "stored", stores, []int64{at, -at - 1}, with(done(-at-1, 2), int(at), -at-1))
		does(t, "stored and loaded", both, []int64{at, 1000 + at}, with(done(1000+at, 3), int(at), 1000+at))
	}
	for _, at := range []int64{-1, 64, 65, -64, 128, 1 << 32, 1<<32 + 3, -1 << 32, 1<<63 - 1, -1 << 63, -1<<63 + 1} {
		does(t, "loaded", loads, []int64{at}, trapped(api.TrapMemory, 2))
		does(t, "stored", stores, []int64{at, 9}, trapped(api.TrapMemory, 1))
	}
	late := module(straight(2, 3, 2, out(0), store(0, 1), out(1), load(2, 1), out(0), store(0, 2)))
	does(t, "a late one", late, []int64{3, 99}, with(trapped(api.TrapMemory, 4, 3, 99), 3, 99))
	does(t, "none too late", late, []int64{3, 4}, with(done(0, 7, 3, 4, 3), 3, 0))
}

// P4.1: what is put out stands in the order in which it was, all of it.
func TestOut(t *testing.T) {
	f := sum()
	f.Blocks[2].Ins = append(f.Blocks[2].Ins, out(1), out(2))
	does(t, "sums", module(f), []int64{4}, done(6, 1+5*2+4*6+1, 1, 0, 2, 1, 3, 3, 4, 6))
	edges := straight(2, 2, 0, out(0), out(1), out(0))
	does(t, "edges", module(edges), []int64{math.MinInt64, math.MaxInt64},
		done(math.MinInt64, 4, math.MinInt64, math.MaxInt64, math.MinInt64))
	more := function(0, api.TypeNone, ints(2), block(jump(1), constant(1, 1)),
		block(jump(1), out(0), op(api.OpAdd, 0, 0, 1)))
	o := ran(t, "counting", module(more), 0, nil, 2+3*1000+1)
	if len(o.Out) != 1001 || o.Out[1000] != 1000 || o.Done {
		t.Error("counting: ", len(o.Out), o.Done)
	}
}

// P4.1: a branch goes to its first way where its Arg is true.
func TestBranch(t *testing.T) {
	f := function(1, api.TypeInt, []int{2, 1},
		block(branch(0, 2, 1)),
		block(giveBack(1), constant(1, 10)),
		block(giveBack(1), constant(1, 20)),
	)
	does(t, "true", module(f), []int64{1}, done(20, 3))
	does(t, "false", module(f), []int64{0}, done(10, 3))
	f.Blocks[0].Term.To = []int{1, 2}
	does(t, "true", module(f), []int64{1}, done(10, 3))
	does(t, "false", module(f), []int64{0}, done(20, 3))
}

// P4.1: jumps forth and back over all blocks that there may be.
func TestJumps(t *testing.T) {
	f := function(0, api.TypeInt, ints(3), block(jump(63), constant(1, 3), constant(2, 1)))
	for i := 1; i < 64; i++ {
		f.Blocks = append(f.Blocks, block(jump(i-1), op(api.OpMul, 2, 2, 1)))
	}
	f.Blocks[1].Term = giveBack(2)
	want := int64(1)
	for range 63 {
		want *= 3
	}
	does(t, "back over all", module(f), nil, done(want, 3+63*2))
}

// P4.1: what a run has done by each step.
func TestEachStep(t *testing.T) {
	caller := straight(1, 3, 2, out(0), call(1, 2, 0), out(2))
	callee := function(1, api.TypeInt, ints(3),
		block(jump(1), constant(1, 2), store(1, 0)),
		block(giveBack(2), out(1), op(api.OpMul, 2, 0, 1)),
	)
	m := module(caller, callee)
	for steps, want := range []api.Outcome{
		stopped(0), stopped(1, 7), stopped(2, 7), stopped(3, 7),
		with(stopped(4, 7), 2, 7), with(stopped(5, 7), 2, 7),
		with(stopped(6, 7, 2), 2, 7), with(stopped(7, 7, 2), 2, 7), with(stopped(8, 7, 2), 2, 7),
		with(stopped(9, 7, 2, 14), 2, 7), with(done(14, 10, 7, 2, 14), 2, 7), with(done(14, 10, 7, 2, 14), 2, 7),
	} {
		comes(t, "step by step", m, 0, []int64{7}, steps, want)
	}
}

// P4.1, P4.3: without a step nothing comes of it.
func TestNoStep(t *testing.T) {
	for _, f := range []api.Func{quiet(0), endless(), straight(0, 1, 0, out(0), op(api.OpDiv, 0, 0, 0))} {
		comes(t, "no step", module(f), 0, nil, 0, stopped(0))
	}
	comes(t, "no step", module(sum()), 0, []int64{3}, 0, stopped(0))
}

// P4.1, P1: a run without an end takes all the steps that it has.
func TestEndless(t *testing.T) {
	for _, steps := range []int{1, 2, 3, 1000, 1<<20 - 1, 1 << 20} {
		comes(t, "endless", module(endless()), 0, nil, steps, stopped(steps))
		itself := quiet(0)
		itself.Blocks[0].Ins = []api.Instr{call(0, -1)}
		comes(t, "calling itself", module(itself), 0, nil, steps, stopped(steps))
	}
}

// P4.1: a block's phis give their Dsts what stands for the block that it is
// entered from, by their numbers, whatever the order of a branch's Tos.
func TestPhisByBlock(t *testing.T) {
	f := function(4, api.TypeInt, []int{2, 1, 1, 1, 1},
		block(branch(0, 3, 1)),
		block(branch(0, 2, 4)),
		block(giveBack(1)),
		block(jump(4)),
		api.Block{Phis: []api.Phi{{Dst: 4, Args: []int{1, 2}}}, Term: giveBack(4)},
	)
	does(t, "by block 3", module(f), []int64{1, 10, 20, 30}, done(20, 3))
	does(t, "by block 1", module(f), []int64{0, 10, 20, 30}, done(10, 3))
	f.Blocks[4].Phis[0].Args = []int{3, 3}
	does(t, "by either", module(f), []int64{0, 10, 20, 30}, done(30, 3))
	f.Blocks[0].Term.To = []int{1, 3}
	f.Blocks[4].Phis[0].Args = []int{1, 2}
	does(t, "by block 3", module(f), []int64{0, 10, 20, 30}, done(20, 3))
	does(t, "to a block without phis", module(f), []int64{1, 10, 20, 30}, done(10, 3))
}

// P4.1: all phis of a block read ahead of all of them: registers change
// places round a loop.
func TestPhisAtOnce(t *testing.T) {
	f := function(3, api.TypeInt, []int{1, 1, 1, 1, 1, 1, 2, 1},
		block(jump(1), constant(7, 1)),
		api.Block{
			Phis: []api.Phi{
				{Dst: 3, Args: []int{0, 4}}, {Dst: 4, Args: []int{1, 3}}, {Dst: 5, Args: []int{2, 5}},
			},
			Ins:  []api.Instr{op(api.OpSub, 5, 5, 7), op(api.OpLt, 6, 5, 7)},
			Term: branch(6, 2, 1),
		},
		block(giveBack(3), out(3), out(4)),
	)
	does(t, "once", module(f), []int64{10, 20, 1}, done(10, 8, 10, 20))
	does(t, "twice", module(f), []int64{10, 20, 2}, done(20, 11, 20, 10))
	does(t, "three times", module(f), []int64{10, 20, 3}, done(10, 14, 10, 20))
}

// P4.1: a phi reads what its Arg had ahead of the block's phis, also where
// the Arg is a phi's Dst, before and behind it.
func TestPhisRow(t *testing.T) {
	shift := []api.Phi{{Dst: 0, Args: []int{1, 1}}, {Dst: 1, Args: []int{2, 2}}, {Dst: 2, Args: []int{0, 0}}}
	for _, order := range [][]int{{0, 1, 2}, {0, 2, 1}, {1, 0, 2}, {1, 2, 0}, {2, 0, 1}, {2, 1, 0}} {
		f := function(3, api.TypeNone, ints(3), block(jump(1)), block(jump(1), out(0), out(1), out(2)))
		for _, i := range order {
			f.Blocks[1].Phis = append(f.Blocks[1].Phis, shift[i])
		}
		comes(t, fmt.Sprint("in turn ", order), module(f), 0, []int64{5, 6, 7}, 12, stopped(12, 6, 7, 5, 7, 5, 6, 5, 6, 7))
	}
}

// P4.1: phis take no step, however many there are, and those of block 0,
// which isn't entered from another one, give nothing.
func TestPhisTakeNoStep(t *testing.T) {
	f := function(1, api.TypeInt, ints(251), block(jump(1)), block(giveBack(250)))
	for i := range 250 {
		f.Blocks[1].Phis = append(f.Blocks[1].Phis, api.Phi{Dst: i + 1, Args: []int{0}})
	}
	does(t, "many", module(f), []int64{7}, done(7, 2))
	first := straight(1, 2, 0)
	first.Blocks[0].Phis = []api.Phi{{Dst: 0}, {Dst: 1}}
	does(t, "block 0", module(first), []int64{7}, done(7, 1))
}

// P4.1: phis of bools, and of a block that is ahead of itself.
func TestPhisOfBools(t *testing.T) {
	f := function(1, api.TypeBool, []int{2, 2, 2, 2},
		block(jump(1), constant(3, 1)),
		api.Block{
			Phis: []api.Phi{{Dst: 1, Args: []int{0, 2}}},
			Ins:  []api.Instr{op(api.OpNot, 2, 1)},
			Term: branch(1, 2, 1),
		},
		block(giveBack(1)),
	)
	does(t, "true at once", module(f), []int64{1}, done(1, 5))
	does(t, "true round the loop", module(f), []int64{0}, done(1, 7))
}

// P4.1: a call's Args come to the parameters in their order, and what it
// returns to the Dst alone.
func TestCall(t *testing.T) {
	digits := straight(3, 5, 4, constant(3, 10), op(api.OpMul, 4, 0, 3), op(api.OpAdd, 4, 4, 1),
		op(api.OpMul, 4, 4, 3), op(api.OpAdd, 4, 4, 2))
	caller := straight(3, 5, 4, call(1, 4, 2, 0, 1), out(0), out(1), out(2), out(3))
	does(t, "in turn", module(caller, digits), []int64{1, 2, 3}, done(312, 12, 1, 2, 3, 0))
	caller.Blocks[0].Ins[0] = call(1, 0, 0, 0, 0)
	does(t, "one thrice", module(caller, digits), []int64{5, 6, 7}, done(0, 12, 555, 6, 7, 0))
	fact := function(1, api.TypeInt, []int{1, 1, 1, 2},
		block(branch(3, 1, 2), constant(1, 1), op(api.OpLt, 3, 0, 1)),
		block(giveBack(1)),
		block(giveBack(2), op(api.OpSub, 2, 0, 1), call(0, 2, 2), op(api.OpMul, 2, 2, 0)),
	)
	does(t, "calling itself", module(fact), []int64{0}, done(1, 4))
	does(t, "calling itself", module(fact), []int64{10}, done(3628800, 10*7+4))
}

// P4.1: a function that returns nothing, and one that returns a bool.
func TestCallOfOthers(t *testing.T) {
	says := function(1, api.TypeNone, ints(2), block(giveBack(-1), constant(1, 4), out(0), out(1)))
	caller := straight(1, 2, 0, call(1, -1, 0), call(1, -1, 1), out(1))
	does(t, "nothing", module(caller, says), []int64{9}, done(9, 12, 9, 4, 0, 4, 0))
	below := function(2, api.TypeBool, []int{1, 1, 2}, block(giveBack(2), op(api.OpLt, 2, 0, 1)))
	asks := function(2, api.TypeBool, []int{1, 1, 2, 2},
		block(branch(3, 1, 2), call(1, 3, 0, 1)), block(giveBack(3)), block(giveBack(2)))
	does(t, "true", module(asks, below), []int64{1, 2}, done(1, 5))
	does(t, "false", module(asks, below), []int64{2, 1}, done(0, 5))
}

// P4.1: each function has its own registers, and finds them as they were
// when a call returns; each time it is entered, those that are no parameters
// are 0.
func TestOwnRegisters(t *testing.T) {
	for _, regs := range []int{9, 200, 256} {
		spoils := straight(1, regs, 1)
		for i := range regs {
			if i != 1 {
				spoils.Blocks[0].Ins = append(spoils.Blocks[0].Ins, op(api.OpSub, i, i, 0))
			}
		}
		spoils.Blocks[0].Ins = spoils.Blocks[0].Ins[:min(regs-1, 240)]
		spoils.Blocks[0].Ins = append(spoils.Blocks[0].Ins, out(regs/2), op(api.OpSub, regs-1, 1, 0))
		last := regs - 1
		caller := straight(2, regs, last, constant(last, 77), call(1, 3, 0), call(1, 4, 1), out(0), out(1), out(last), out(5))
		m := module(caller, spoils)
		n := len(spoils.Blocks[0].Ins) + 1
		half := int64(0)
		does(t, fmt.Sprint(regs, " registers"), m, []int64{6, 7}, done(77, 8+2*n, half, half, 6, 7, 77, 0))
		caller.Blocks[0].Ins[1].Dst = last
		does(t, fmt.Sprint(regs, " registers"), m, []int64{6, 7}, done(0, 8+2*n, half, half, 6, 7, 0, 0))
	}
}

// P4.1: whatever registers a caller has that aren't 0, it finds again.
func TestRegistersKept(t *testing.T) {
	for _, set := range [][]int{{}, {0}, {255}, {0, 255}, {127}, {3, 128, 254}, {254}} {
		caller := function(0, api.TypeNone, ints(256), block(giveBack(-1)))
		b := &caller.Blocks[0]
		want := []int64{}
		for _, reg := range set {
			b.Ins = append(b.Ins, constant(reg, int64(-reg-1)))
		}
		b.Ins = append(b.Ins, call(1, -1))
		for reg := range 240 {
			reg = 255 - reg
			b.Ins = append(b.Ins, out(reg))
			v := int64(0)
			if slices.Contains(set, reg) {
				v = int64(-reg - 1)
			}
			want = append(want, v)
		}
		fills := function(0, api.TypeNone, ints(256), block(giveBack(-1)))
		for reg := range 255 {
			fills.Blocks[0].Ins = append(fills.Blocks[0].Ins, constant(reg+1, 5))
		}
		does(t, fmt.Sprint("registers ", set), module(caller, fills), nil, done(0, len(b.Ins)+1+256, want...))
	}
}

// P4.1: memory, and what is put out, are one for all functions; memory is
// all 0 again in the next run.
func TestOneMemory(t *testing.T) {
	caller := straight(1, 4, 3, constant(1, 5), store(1, 0), call(1, 2), out(2), load(3, 1))
	callee := straight(0, 3, 1, constant(0, 5), load(1, 0), out(1), constant(2, 40), store(0, 2))
	m := module(caller, callee)
	for range 2 {
		does(t, "one memory", m, []int64{30}, with(done(40, 12, 30, 30), 5, 40))
		comes(t, "another run", m, 1, nil, enough, with(done(0, 6, 0), 5, 40))
	}
}

// P4.1: a trap ends all, however deep it is: nothing is returned.
func TestTrapInCall(t *testing.T) {
	caller := straight(1, 2, 0, constant(1, 3), out(1), call(1, 0, 0), out(0), store(1, 1))
	middle := straight(1, 2, 0, out(0), call(2, 1, 0), out(1))
	divides := straight(1, 3, 2, constant(1, 60), store(1, 1), op(api.OpDiv, 2, 1, 0), out(2))
	m := module(caller, middle, divides)
	does(t, "by 0", m, []int64{0}, with(trapped(api.TrapDiv, 8, 3, 0), 60, 60))
	does(t, "by 2", m, []int64{2}, with(with(done(2, 15, 3, 2, 30, 30, 2), 60, 60), 3, 3))
	m.Funcs[2].Blocks[0].Ins[2] = load(0, 0)
	does(t, "a word that isn't there", m, []int64{-1}, with(trapped(api.TrapMemory, 8, 3, -1), 60, 60))
}

// P4.1: functions that call one another, those behind and those ahead.
func TestCallEachOther(t *testing.T) {
	other := func(fun int) api.Func {
		return function(1, api.TypeBool, []int{1, 1, 1, 2},
			block(branch(3, 1, 2), op(api.OpEq, 3, 0, 1)),
			block(giveBack(3), constant(3, int64(fun))),
			block(giveBack(3), constant(1, 1), op(api.OpSub, 2, 0, 1), call(fun, 3, 2)),
		)
	}
	even, odd := other(1), other(0)
	for n := range int64(9) {
		comes(t, "even", module(even, odd), 0, []int64{n}, enough, done(1-n%2, int(4+6*n)))
		comes(t, "odd", module(even, odd), 1, []int64{n}, enough, done(n%2, int(4+6*n)))
	}
}

// P4.1: what is told of a run that returns nothing, of one that has no step
// left, and of one that trapped, has no value.
func TestNoValue(t *testing.T) {
	f := function(1, api.TypeNone, ints(2), block(giveBack(-1), constant(1, 9)))
	does(t, "nothing", module(f), []int64{5}, done(0, 2))
	comes(t, "without a step left", module(straight(1, 1, 0, out(0))), 0, []int64{5}, 1, stopped(1, 5))
	inner := straight(1, 2, 0, call(1, 1, 0), op(api.OpDiv, 0, 0, 0))
	does(t, "trapped behind a call", module(inner, straight(1, 1, 0)), []int64{0}, trapped(api.TrapDiv, 3))
}

// P1, P4.1: callers that wait, as many as there are steps, with all their
// registers; and back through a great many of them.
func TestDeep(t *testing.T) {
	for _, f := range []api.Func{
		straight(1, 256, 0, call(0, 1, 0)),
		straight(1, 256, 0, constant(255, 1), call(0, 1, 255)),
		straight(8, 9, 0, out(0), call(0, 1, 0, 1, 2, 3, 4, 5, 6, 8)),
	} {
		o := ran(t, "deep", module(f), 0, make([]int64, f.Params), enough)
		if o.Done || o.Steps != enough || o.Value != 0 || o.Memory != [api.Words]int64{} {
			t.Error("deep: ", o.Done, o.Steps, o.Value)
		}
	}
	down := function(1, api.TypeInt, ints(256),
		block(branch(2, 1, 2), constant(1, 1), op(api.OpLt, 2, 0, 1)),
		block(giveBack(0)),
		block(giveBack(0), op(api.OpCopy, 255, 0), op(api.OpSub, 0, 0, 1), call(0, 0, 0), op(api.OpAdd, 0, 0, 255)),
	)
	down.Regs[2] = api.TypeBool
	const n = 10000
	does(t, "down and back", module(down), []int64{n}, done(n*(n+1)/2, n*8+4))
}
