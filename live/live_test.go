package live_test

import (
	"fmt"
	"math"
	"math/rand"
	"slices"
	"testing"

	"fettle/api"
	"fettle/check"
	"fettle/live"
	"fettle/sample"
)

// P8.1: the chapter's example: a function that returns its first parameter.
func TestExample(t *testing.T) {
	m := module(straight(1, 1, 0))
	wanted(t, "returns its first parameter", m, at{[]int{0}, none})
	named(t, "returns its first parameter", m, 1)
}

// P8.1: a loop: what is wanted goes round with it.
func TestSum(t *testing.T) {
	m := module(sample.Sum())
	wanted(t, "sum", m,
		at{[]int{0, 1, 2}, []int{0, 1, 2}},
		at{[]int{0, 1, 2}, []int{0, 1, 2}},
		at{[]int{0, 1, 2}, []int{0, 1, 2}},
		at{[]int{2}, none})
	named(t, "sum", m, 1, 3, 2, 1, 1)
}

// P8.1: no registers; registers that nothing names.
func TestFewest(t *testing.T) {
	wanted(t, "no registers", module(sample.Quiet(0)), at{})
	named(t, "no registers", module(sample.Quiet(0)))
	wanted(t, "none named", module(sample.Quiet(3)), at{})
	named(t, "none named", module(sample.Quiet(3)), 0, 0, 0)
	wanted(t, "no registers, round", module(sample.Endless()), at{}, at{})
	named(t, "no registers, round", module(sample.Endless()))
	lone := module(straight(2, 2, 0, constant(0, 1)))
	wanted(t, "made alone", lone, at{})
	named(t, "made alone", lone, 1, 0)
}

// P8.1: a block uses what is named ahead of all instructions that make it; of
// one instruction the Args come ahead of the Dst.
func TestUses(t *testing.T) {
	try := func(what string, wantIn []int, wantCount []int, ins ...api.Instr) {
		t.Helper()
		m := module(straight(0, 3, 0, ins...))
		wanted(t, what, m, at{wantIn, none})
		named(t, what, m, wantCount...)
	}
	try("used, then made", []int{0}, []int{2, 0, 0}, out(0), constant(0, 1))
	try("made, then used", none, []int{2, 0, 0}, constant(0, 1), out(0))
	try("made of itself", []int{0}, []int{3, 0, 0}, op(api.OpAdd, 0, 0, 0))
	try("made, then of itself", none, []int{2, 0, 0}, constant(0, 1), op(api.OpCopy, 0, 0))
	try("made of another one", []int{1}, []int{1, 1, 0}, op(api.OpCopy, 0, 1), constant(1, 1))
	try("between two that make it", none, []int{2, 0, 0}, constant(0, 1), out(0), constant(0, 2))
	try("ahead of two that make it", []int{0}, []int{2, 0, 0}, out(0), constant(0, 1), constant(0, 2))
	try("by the second of its Args", []int{0, 2}, []int{1, 1, 1}, constant(1, 5), store(1, 2))
	try("by the end alone", []int{0}, []int{1, 0, 0}, constant(1, 5))
	try("loaded", []int{1}, []int{1, 1, 0}, load(0, 1))
	try("for nothing", []int{0, 1, 2}, []int{1, 2, 1}, op(api.OpDiv, 1, 1, 2), constant(1, 4), op(api.OpCopy, 2, 1))
}

// P8.1: whether a branch's end uses what it asks hangs on the block's instructions.
func TestBranch(t *testing.T) {
	ask := func(ins ...api.Instr) api.Module {
		return module(function(0, 0, []int{2, 1}, block(branch(0, 1, 2), ins...), block(giveBack(-1)), block(giveBack(-1))))
	}
	wanted(t, "asked", ask(), at{[]int{0}, none}, at{}, at{})
	named(t, "asked", ask(), 1, 0)
	wanted(t, "made, and asked", ask(constant(0, 1)), at{}, at{}, at{})
	named(t, "made, and asked", ask(constant(0, 1)), 1, 0)
	wanted(t, "compared, and asked", ask(op(api.OpLt, 0, 1, 1)), at{[]int{1}, none}, at{}, at{})
	named(t, "compared, and asked", ask(op(api.OpLt, 0, 1, 1)), 1, 2)
}

// P8.1: a call uses all its Args.
func TestCall(t *testing.T) {
	callee := straight(3, 3, 2)
	m := module(straight(0, 5, 4, call(1, 4, 2, 1, 2)), callee)
	wanted(t, "a call", m, at{[]int{1, 2}, none})
	named(t, "a call", m, 0, 1, 2, 0, 1)
	m = module(straight(0, 5, 4, call(1, -1, 4, 0, 3), call(1, -1, 4, 4, 4)), callee)
	m.Funcs[1].Result, m.Funcs[1].Blocks[0].Term = api.TypeNone, giveBack(-1)
	wanted(t, "a call for nothing", m, at{[]int{0, 3, 4}, none})
	named(t, "a call for nothing", m, 1, 0, 0, 1, 5)
}

// P8.1: what is wanted at an end is wanted at the beginning but where it is made.
func TestThrough(t *testing.T) {
	through := func(ins ...api.Instr) api.Module {
		return module(function(0, api.TypeInt, ints(2), block(jump(1)), block(jump(2), ins...), block(giveBack(0))))
	}
	all, end := at{[]int{0}, []int{0}}, at{[]int{0}, none}
	wanted(t, "nothing done", through(), all, all, end)
	wanted(t, "used", through(out(0)), all, all, end)
	wanted(t, "another one made", through(constant(1, 1)), all, all, end)
	wanted(t, "made", through(constant(0, 1)), at{}, at{none, []int{0}}, end)
	wanted(t, "made of itself", through(op(api.OpAdd, 0, 0, 1)), at{[]int{0, 1}, []int{0, 1}}, at{[]int{0, 1}, []int{0}}, end)
	wanted(t, "made, of two ways one", module(function(0, api.TypeInt, []int{1, 2},
		block(branch(1, 1, 2)), block(jump(3), constant(0, 1)), block(jump(3)), block(giveBack(0)))),
		at{[]int{0, 1}, []int{0}}, at{none, []int{0}}, all, end)
}

// P8.1: phis use their Args along the edges from the blocks that these stand for.
func TestPhis(t *testing.T) {
	join := func(end int, phis ...api.Phi) api.Module {
		return module(function(0, api.TypeInt, []int{1, 1, 1, 1, 2, 1},
			block(branch(4, 1, 2)), block(jump(3)), block(jump(3)), withPhis(block(giveBack(end)), phis...)))
	}
	m := join(0, phi(0, 1, 2))
	wanted(t, "a phi", m, at{[]int{1, 2, 4}, []int{1, 2}}, at{[]int{1}, []int{1}}, at{[]int{2}, []int{2}}, at{})
	named(t, "a phi", m, 1, 1, 1, 0, 1, 0)
	m = join(3, phi(0, 1, 2))
	wanted(t, "a phi that nobody wants", m,
		at{[]int{1, 2, 3, 4}, []int{1, 2, 3}}, at{[]int{1, 3}, []int{1, 3}}, at{[]int{2, 3}, []int{2, 3}}, at{[]int{3}, none})
	m = join(0, phi(0, 0, 2), phi(1, 5, 1))
	wanted(t, "phis of what they make", m,
		at{[]int{0, 1, 2, 4, 5}, []int{0, 1, 2, 5}}, at{[]int{0, 5}, []int{0, 5}}, at{[]int{1, 2}, []int{1, 2}}, at{})
	named(t, "phis of what they make", m, 2, 1, 1, 0, 1, 1)
	m = join(1, phi(0, 1, 1), phi(2, 1, 3), phi(0, 1, 1))
	wanted(t, "one Arg of many phis", m,
		at{[]int{1, 3, 4}, []int{1, 3}}, at{[]int{1}, []int{1}}, at{[]int{1, 3}, []int{1, 3}}, at{[]int{1}, none})
	named(t, "one Arg of many phis", m, 0, 6, 0, 1, 1, 0)
}

// P8.1: none that its phis make is wanted at a block's beginning, though it be
// used there, or made there once more.
func TestPhisMake(t *testing.T) {
	loop := func(ins ...api.Instr) api.Module {
		return module(function(0, api.TypeInt, []int{1, 1, 2},
			block(jump(1)), withPhis(block(branch(2, 1, 2), ins...), phi(0, 1, 0)), block(giveBack(0))))
	}
	first, end := at{[]int{1, 2}, []int{1, 2}}, at{[]int{0}, none}
	wanted(t, "by the loop itself", loop(), first, at{[]int{2}, []int{0, 2}}, end)
	wanted(t, "used", loop(out(0)), first, at{[]int{2}, []int{0, 2}}, end)
	wanted(t, "made once more", loop(op(api.OpAdd, 0, 0, 0)), first, at{[]int{2}, []int{0, 2}}, end)
	wanted(t, "the other one made", loop(constant(1, 3), constant(2, 1)), at{[]int{1}, []int{1}}, at{none, []int{0}}, end)
	swap := module(function(2, api.TypeInt, []int{1, 1, 2},
		block(jump(1)), withPhis(block(branch(2, 1, 2)), phi(0, 0, 1), phi(1, 1, 0)), block(giveBack(0))))
	wanted(t, "changing places", swap, at{[]int{0, 1, 2}, []int{0, 1, 2}}, at{[]int{2}, []int{0, 1, 2}}, end)
	named(t, "changing places", swap, 3, 2, 1)
}

// P8.1: phis of a block that none is ahead of make their Dsts of nothing.
func TestPhisOfNothing(t *testing.T) {
	m := module(function(1, api.TypeInt, ints(2), withPhis(block(giveBack(0), out(1)), phi(0))))
	wanted(t, "block 0", m, at{[]int{1}, none})
	named(t, "block 0", m, 1, 1)
	m = module(function(0, api.TypeInt, ints(2), block(giveBack(0)), withPhis(block(jump(2)), phi(1)), block(giveBack(1), out(0))))
	wanted(t, "one that isn't reached", m, at{[]int{0}, none}, at{[]int{0}, []int{0, 1}}, at{[]int{0, 1}, none})
	named(t, "one that isn't reached", m, 2, 1)
}

// P8.1: blocks that aren't reached count as all others do: their phis, what
// they use, and what is wanted behind them.
func TestNotReached(t *testing.T) {
	m := module(function(0, api.TypeInt, []int{1, 1, 1, 2},
		block(jump(2)),
		block(branch(3, 2, 1), out(1)),
		withPhis(block(giveBack(0)), phi(0, 0, 2))))
	wanted(t, "leading in", m, at{[]int{0}, []int{0}}, at{[]int{1, 2, 3}, []int{1, 2, 3}}, at{})
	named(t, "leading in", m, 2, 1, 1, 1)
}

// P8.1: as many blocks, registers and instructions as there may be; what is
// wanted by the last block is by all.
func TestMost(t *testing.T) {
	const blocks, regs = api.MaxBlocks, api.MaxRegs
	f := function(8, api.TypeInt, ints(regs))
	for b := range blocks - 1 {
		f.Blocks = append(f.Blocks, block(jump(b+1)))
	}
	f.Blocks = append(f.Blocks, block(giveBack(regs-1)))
	var all, count []int
	for r := range regs {
		all, count = append(all, r), append(count, 1)
	}
	for r := 0; r < regs-2; r += 2 {
		f.Blocks[blocks-1].Ins = append(f.Blocks[blocks-1].Ins, store(r, r+1))
	}
	f.Blocks[blocks-1].Ins = append(f.Blocks[blocks-1].Ins, out(regs-2))
	want := slices.Repeat([]at{{all, all}}, blocks)
	want[blocks-1].end = none
	wanted(t, "most", module(f), want...)
	named(t, "most", module(f), count...)
	for len(f.Blocks[0].Ins) < api.MaxIns-blocks-regs/2 {
		f.Blocks[0].Ins = append(f.Blocks[0].Ins, op(api.OpMul, 7, 7, 7))
		count[7] += 2
	}
	wanted(t, "most, full", module(f), want...)
	named(t, "most, full", module(f), count...)
	f.Blocks[3].Ins = append(f.Blocks[3].Ins, out(0))
	refused(t, "one more", module(f), 0)
}

// P8.1: of many functions the one that is asked for is told.
func TestWhichFunc(t *testing.T) {
	var m api.Module
	for i := range api.MaxFuncs {
		m.Funcs = append(m.Funcs, straight(0, i+1, i))
	}
	for i := range m.Funcs {
		what := fmt.Sprint("function ", i)
		if got, want := told(t, what, m, i), []at{{[]int{i}, none}}; !same(got, want) {
			t.Errorf("%s: Live: %v, want %v", what, got, want)
		}
		want := make([]int, i+1)
		want[i] = 1
		if got, err := live.Count(m, i); err != nil || !slices.Equal(got, want) {
			t.Errorf("%s: Count: %v, %v, want %v", what, got, err, want)
		}
	}
	refused(t, "as many as there may be", m, api.MaxFuncs)
}

// refused holds that a function isn't told: by check.Module's error, if it has
// one, else by ErrArg, itself; and nothing beside it.
func refused(t *testing.T, what string, m api.Module, f int) {
	t.Helper()
	want := check.Module(m)
	if want == nil {
		want = api.ErrArg
	}
	beginning, end, err := live.Live(m, f)
	if !sample.SameError(err, want) || beginning != nil || end != nil {
		t.Errorf("%s, function %d: Live: %v, %v, %v, want %v alone", what, f, beginning, end, err, want)
	}
	count, err := live.Count(m, f)
	if !sample.SameError(err, want) || count != nil {
		t.Errorf("%s, function %d: Count: %v, %v, want %v alone", what, f, count, err, want)
	}
}

// P8.1, R3: no such function.
func TestNoSuchFunc(t *testing.T) {
	for _, m := range []api.Module{{}, {Funcs: []api.Func{}}, module(sample.Sum()), module(sample.Quiet(2), sample.Sum(), sample.Endless())} {
		for _, f := range sample.Beyond(len(m.Funcs)) {
			refused(t, fmt.Sprint(len(m.Funcs), " functions"), m, f)
		}
	}
}

// P8.1, R1, R3: modules that aren't proper are refused as check.Module does,
// whatever the function that is asked for, be it there or not.
func TestNotProper(t *testing.T) {
	big := module(slices.Repeat([]api.Func{sample.Quiet(1)}, api.MaxFuncs+1)...)
	type wrong struct {
		what string
		f    api.Func
	}
	phis := sample.Sum()
	phis.Blocks[1].Phis = []api.Phi{phi(1, 1)}
	for _, w := range []wrong{
		{"no blocks", api.Func{}},
		{"no type", function(0, 0, []int{7}, block(giveBack(-1)))},
		{"a register that isn't there", straight(0, 1, 1)},
		{"one below all", straight(0, 1, 0, out(math.MinInt))},
		{"no Dst", straight(0, 1, 0, op(api.OpCopy, -1, 0))},
		{"no Arg", straight(0, 1, -1)},
		{"a block that isn't there", function(0, 0, nil, block(jump(1)))},
		{"a phi of too few", phis},
		{"no such operation", straight(0, 1, 0, op(19, 0, 0))},
		{"a call of none", straight(0, 1, 0, call(9, 0))},
	} {
		for _, m := range []api.Module{module(w.f), module(sample.Sum(), w.f), module(w.f, sample.Sum(), w.f)} {
			if check.Module(m) == nil {
				t.Error(w.what, " is proper")
			}
			for _, f := range append(sample.Beyond(len(m.Funcs)), 0, len(m.Funcs)-1) {
				refused(t, w.what, m, f)
			}
		}
	}
	for _, f := range append(sample.Beyond(len(big.Funcs)), 0, 7, len(big.Funcs)-1) {
		refused(t, "too many functions", big, f)
	}
}

// P1, P8.1: any functions, proper or not, are told or refused.
func TestOdd(t *testing.T) {
	r := rand.New(rand.NewSource(1))
	seen := sample.Tally{}
	for i := range 6000 {
		m := module(sample.Odd(r.Intn))
		if r.Intn(2) == 0 {
			m.Funcs = append(m.Funcs, sample.Odd(r.Intn))
		}
		if check.Module(m) != nil {
			refused(t, fmt.Sprint("module ", i), m, r.Intn(4)-1)
			seen.Add("refused", true)
		}
	}
	seen.Enough(t, "refused")
}
