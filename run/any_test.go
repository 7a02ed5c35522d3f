package run_test

import (
	"fmt"
	"math"
	"math/rand"
	"slices"
	"testing"

	"fettle/api"
	"fettle/check"
	"fettle/run"
	"fettle/sample"
)

// oracle does what the chapter tells, written out here once more in another
// way: functions call one another on Go's own stack, registers stand in maps.
type oracle struct {
	m     api.Module
	steps int
	told  api.Outcome
}

// over is how an oracle ends ahead of a return.
type over struct{}

// expected is what must come of a run.
func expected(m api.Module, f int, args []int64, steps int) (told api.Outcome) {
	o := &oracle{m: m, steps: steps}
	defer func() {
		if r := recover(); r != nil && r != any(over{}) {
			panic(r)
		}
		told = o.told
	}()
	v := o.call(f, args)
	o.told.Done, o.told.Value = true, v
	return
}

func (o *oracle) step() {
	if o.told.Steps == o.steps {
		panic(over{})
	}
	o.told.Steps++
}

func (o *oracle) trapIf(is bool, trap int) {
	if is {
		o.told.Done, o.told.Trap = true, trap
		panic(over{})
	}
}

func (o *oracle) call(fun int, args []int64) int64 {
	f := o.m.Funcs[fun]
	regs := map[int]int64{-1: 0}
	for i, a := range args {
		regs[i] = a
	}
	for at := 0; ; {
		for _, in := range f.Blocks[at].Ins {
			o.step()
			o.do(in, regs)
		}
		o.step()
		end := f.Blocks[at].Term
		if end.Kind == api.TermReturn {
			return regs[end.Arg]
		}
		to := end.To[0]
		if end.Kind == api.TermBranch && regs[end.Arg] == 0 {
			to = end.To[1]
		}
		enter(f, regs, at, to)
		at = to
	}
}

// enter gives a block's phis what stands for the one ahead of it.
func enter(f api.Func, regs map[int]int64, from, to int) {
	which := 0
	for b := range from {
		if slices.Contains(f.Blocks[b].Term.To, to) {
			which++
		}
	}
	given := map[int]int64{}
	for _, p := range f.Blocks[to].Phis {
		given[p.Dst] = regs[p.Args[which]]
	}
	for reg, v := range given {
		regs[reg] = v
	}
}

func (o *oracle) do(in api.Instr, regs map[int]int64) {
	var args []int64
	for _, a := range in.Args {
		args = append(args, regs[a])
	}
	switch in.Op {
	case api.OpConst:
		regs[in.Dst] = in.Imm
	case api.OpLoad:
		o.trapIf(args[0] < 0 || args[0] > 63, api.TrapMemory)
		regs[in.Dst] = o.told.Memory[args[0]]
	case api.OpStore:
		o.trapIf(args[0] < 0 || args[0] > 63, api.TrapMemory)
		o.told.Memory[args[0]] = args[1]
	case api.OpOut:
		o.told.Out = append(o.told.Out, args[0])
	case api.OpCall:
		v := o.call(in.Fun, args)
		if in.Dst != -1 {
			regs[in.Dst] = v
		}
	case api.OpCopy:
		regs[in.Dst] = args[0]
	case api.OpNot:
		regs[in.Dst] = 1 - args[0]
	default:
		o.trapIf(in.Op == api.OpDiv && args[1] == 0, api.TrapDiv)
		regs[in.Dst] = reckoned(in.Op, args[0], args[1])
	}
}

// reckoned is what an operation makes of two ints.
func reckoned(op int, a, b int64) int64 {
	is := map[bool]int64{true: 1}
	switch op {
	case api.OpAdd:
		return a + b
	case api.OpSub:
		return a - b
	case api.OpMul:
		return a * b
	case api.OpAnd:
		return a & b
	case api.OpOr:
		return a | b
	case api.OpXor:
		return a ^ b
	case api.OpShl:
		return a << (uint64(b) % 64)
	case api.OpShr:
		return a >> (uint64(b) % 64)
	case api.OpDiv:
		return a / b
	case api.OpLt:
		return is[a < b]
	}
	return is[a == b]
}

// anyArgs are arguments that a function may be entered with.
func anyArgs(r *rand.Rand, f api.Func) []int64 {
	args := make([]int64, f.Params)
	for i := range args {
		args[i] = int64(r.Intn(2))
		if f.Regs[i] == api.TypeInt && r.Intn(2) == 0 {
			args[i] = int64(r.Uint64()) >> r.Intn(64)
		}
	}
	return args
}

// each goes through runs of any functions.
func each(t *testing.T, seed int64, by func(what string, r *rand.Rand, m api.Module, f int, args []int64)) {
	t.Helper()
	r := rand.New(rand.NewSource(seed))
	for i := range 3000 {
		m := sample.Any(r.Intn)
		if err := check.Module(m); err != nil {
			t.Fatalf("module %d: %v", i, err)
		}
		for f := range m.Funcs {
			by(fmt.Sprintf("module %d, function %d", i, f), r, m, f, anyArgs(r, m.Funcs[f]))
		}
	}
}

// P4.1: what comes of any functions is what the chapter tells.
func TestAny(t *testing.T) {
	seen := map[string]int{}
	each(t, 1, func(what string, r *rand.Rand, m api.Module, f int, args []int64) {
		steps := r.Intn(600)
		want := expected(m, f, args, steps)
		comes(t, what, m, f, args, steps, want)
		seen[fmt.Sprint("done ", want.Done, ", trap ", want.Trap)]++
		if len(want.Out) > 3 {
			seen["put out"]++
		}
		if want.Memory != [api.Words]int64{} {
			seen["stored"]++
		}
		if want.Done && want.Steps > 40 {
			seen["long"]++
		}
	})
	for _, what := range []string{"done true, trap 0", "done true, trap 1", "done true, trap 2", "done false, trap 0", "put out", "stored", "long"} {
		if seen[what] < 100 {
			t.Error("too few are ", what, ": ", seen)
		}
	}
}

// P4.3: with more steps what is put out begins likewise, and what is done
// stays so; each step less than it takes is one less that it took.
func TestMoreSteps(t *testing.T) {
	each(t, 2, func(what string, r *rand.Rand, m api.Module, f int, args []int64) {
		last := ran(t, what, m, f, args, 0)
		if !same(last, stopped(0)) {
			t.Errorf("%s, without a step: %+v", what, last)
		}
		for steps := 1; steps < 1<<10; steps += 1 + steps/2*r.Intn(2) {
			o := ran(t, what, m, f, args, steps)
			if last.Done && !same(o, last) {
				t.Errorf("%s, %d steps: %+v, and it was done as %+v", what, steps, o, last)
			}
			if len(o.Out) < len(last.Out) || !slices.Equal(o.Out[:len(last.Out)], last.Out) {
				t.Errorf("%s, %d steps: %v, and it had put out %v", what, steps, o.Out, last.Out)
			}
			if o.Steps > steps || !o.Done && (o.Steps != steps || o.Trap != 0 || o.Value != 0) || o.Trap != 0 && o.Value != 0 {
				t.Errorf("%s, %d steps: %+v", what, steps, o)
			}
			last = o
		}
		if last.Done {
			comes(t, what, m, f, args, last.Steps, last)
		}
	})
}

// around is a function that calls another one with its own parameters, and
// returns what that does.
func around(f api.Func, fun int) api.Func {
	g := function(f.Params, f.Result, slices.Clone(f.Regs), block(giveBack(-1), call(fun, -1)))
	in := &g.Blocks[0].Ins[0]
	for i := range f.Params {
		in.Args = append(in.Args, i)
	}
	if f.Result != api.TypeNone {
		in.Dst = slices.Index(f.Regs, f.Result)
		g.Blocks[0].Term.Arg = in.Dst
	}
	return g
}

// P4.3: such a function does what the other one does, with two steps more,
// or, if that traps, one.
func TestAround(t *testing.T) {
	traps := 0
	each(t, 3, func(what string, r *rand.Rand, m api.Module, f int, args []int64) {
		steps := 2 + r.Intn(600)
		want := ran(t, what, m, f, args, steps-2)
		m.Funcs = append(m.Funcs, around(m.Funcs[f], f))
		o := ran(t, what, m, len(m.Funcs)-1, args, steps)
		if !want.Done {
			want = ran(t, what, m, f, args, steps-1)
			if want.Done && want.Trap == 0 {
				want = api.Outcome{Out: want.Out, Steps: want.Steps, Memory: want.Memory}
			}
		} else if want.Trap == 0 {
			want.Steps++
		} else {
			traps++
		}
		want.Steps++
		if !same(o, want) {
			t.Errorf("%s, called: %+v, want %+v", what, o, want)
		}
	})
	if traps < 100 {
		t.Error("too few trap: ", traps)
	}
}

// P1, R3: any numbers for a function, args and steps: an answer, or ErrArg
// and nothing.
func TestAnyArguments(t *testing.T) {
	odd := []int{math.MinInt, -1, 0, 1, 2, 3, 7, 1 << 20, 1<<20 + 1, 1 << 40, math.MaxInt}
	each(t, 4, func(what string, r *rand.Rand, m api.Module, f int, args []int64) {
		steps := odd[r.Intn(len(odd))]
		if steps == 1<<20 {
			steps = 1 << 10
		}
		if r.Intn(2) == 0 {
			f = odd[r.Intn(len(odd))]
		}
		if len(args) > 0 && r.Intn(2) == 0 {
			args = args[1:]
		}
		o, err := run.Run(m, f, args, steps)
		if err != nil && (err != error(api.ErrArg) || !nothing(o)) {
			t.Errorf("%s: %+v, %v", what, o, err)
		}
		proper := f >= 0 && f < len(m.Funcs) && steps >= 0 && steps <= 1<<20 && fits(m.Funcs[f], args)
		if proper != (err == nil) {
			t.Errorf("%s, function %d, %v, %d steps: %v", what, f, args, steps, err)
		}
	})
}

// fits tells whether a function may be entered with these.
func fits(f api.Func, args []int64) bool {
	for i, a := range args {
		if i < f.Params && f.Regs[i] == api.TypeBool && a != 0 && a != 1 {
			return false
		}
	}
	return len(args) == f.Params
}
