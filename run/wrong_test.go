package run_test

import (
	"fmt"
	"math"
	"reflect"
	"slices"
	"testing"

	"fettle/api"
	"fettle/check"
	"fettle/run"
)

// refused holds that Run answers ErrArg itself, and nothing beside it (R3).
func refused(t *testing.T, what string, m api.Module, f int, args []int64, steps int) {
	t.Helper()
	o, err := run.Run(m, f, args, steps)
	if err != error(api.ErrArg) || !nothing(o) {
		t.Errorf("%s: %+v, %v, want %v", what, o, err, api.ErrArg)
	}
}

// P4.1: a function that isn't there.
func TestNoSuchFunction(t *testing.T) {
	m := module(quiet(0), quiet(1))
	for _, f := range []int{-1, -2, 2, 3, 32, 1 << 40, 1 << 32, math.MaxInt, math.MinInt} {
		refused(t, fmt.Sprint("function ", f), m, f, nil, 9)
	}
	refused(t, "nothing", module(), 0, nil, 9)
	refused(t, "nothing", module(), -1, nil, 9)
	comes(t, "function 1", m, 1, nil, 9, done(0, 1))
}

// P4.1: too few and too many args.
func TestHowManyArgs(t *testing.T) {
	for params := range api.MaxParams + 1 {
		m := module(straight(params, 9, 0))
		for many := range 12 {
			args := make([]int64, many)
			if many == params {
				comes(t, "as many", m, 0, args, 9, done(0, 1))
			} else {
				refused(t, fmt.Sprint(many, " args for ", params), m, 0, args, 9)
			}
		}
	}
}

// P4.1: a bool's arg is 0 or 1, wherever it stands; an int's any number.
func TestArgsOfBools(t *testing.T) {
	for at := range api.MaxParams {
		for _, n := range []int64{-1, 2, 3, 1 << 32, 1<<32 + 1, math.MaxInt64, math.MinInt64, math.MinInt64 + 1, 0, 1} {
			f := straight(8, 9, 8)
			args := make([]int64, 8)
			args[at] = n
			comes(t, "of an int", module(f), 0, args, 9, done(0, 1))
			f.Regs[at] = api.TypeBool
			if n == 0 || n == 1 {
				comes(t, "of a bool", module(f), 0, args, 9, done(0, 1))
			} else {
				refused(t, fmt.Sprint("a bool of ", n), module(f), 0, args, 9)
			}
		}
	}
	others := straight(1, 2, 0)
	others.Regs[1] = api.TypeBool
	comes(t, "a bool that is no parameter", module(others), 0, []int64{7}, 9, done(7, 1))
}

// P4.1: steps below 0, and above 2^20.
func TestSteps(t *testing.T) {
	for _, steps := range []int{-1, -2, 1<<20 + 1, 1 << 21, 1 << 32, 1<<32 + 5, math.MaxInt, math.MinInt, math.MinInt + 5} {
		refused(t, fmt.Sprint(steps, " steps"), module(quiet(0)), 0, nil, steps)
	}
	comes(t, "most steps", module(quiet(0)), 0, nil, 1<<20, done(0, 1))
	comes(t, "no steps", module(quiet(0)), 0, nil, 0, stopped(0))
}

// improper are modules that are none, with each of check's errors.
func improper() []api.Module {
	bad := []api.Func{
		{},
		quiet(257),
		function(0, api.TypeNone, []int{3}, block(giveBack(-1))),
		function(9, api.TypeNone, ints(9), block(giveBack(-1))),
		function(-1, api.TypeNone, nil, block(giveBack(-1))),
		function(0, 4, nil, block(giveBack(-1))),
		function(0, api.TypeNone, nil, block(jump(0))),
		function(0, api.TypeNone, nil, block(jump(1))),
		function(0, api.TypeNone, nil, block(jump(-1))),
		function(0, api.TypeNone, nil, block(api.Term{Arg: -1})),
		function(0, api.TypeInt, ints(1), block(giveBack(1))),
		function(0, api.TypeInt, ints(1), block(giveBack(-1))),
		function(0, api.TypeNone, ints(1), block(branch(0, 1, 2)), block(giveBack(-1)), block(giveBack(-1))),
		function(0, api.TypeNone, ints(1), api.Block{Phis: []api.Phi{{Args: []int{0}}}, Term: giveBack(-1)}),
		straight(0, 1, 0, op(99, 0)),
		straight(0, 1, 0, op(api.OpAdd, 0, 0)),
		straight(0, 1, 0, op(api.OpAdd, 0, 0, 1)),
		straight(0, 1, 0, op(api.OpAdd, -1, 0, 0)),
		straight(0, 1, 0, op(api.OpLt, 0, 0, 0)),
		straight(0, 1, 0, call(7, -1)),
		straight(0, 1, 0, load(0, -1)),
		straight(0, 1, 0, store(0, math.MaxInt)),
	}
	l := []api.Module{module(slices.Repeat([]api.Func{quiet(0)}, api.MaxFuncs+1)...)}
	for _, f := range bad {
		l = append(l, module(f), module(quiet(0), f), module(f, quiet(0), api.Func{}))
	}
	return l
}

// P4.1, R1, R3: check.Module's error, though another function is to be run,
// and whatever is amiss beside it.
func TestImproper(t *testing.T) {
	seen := map[string]int{}
	for i, m := range improper() {
		want := check.Module(m)
		if want == nil {
			t.Fatalf("module %d is proper", i)
		}
		for _, f := range []int{0, 1, -1, 40} {
			for _, args := range [][]int64{nil, {1}, make([]int64, 9)} {
				for _, steps := range []int{0, 9, -1, 1<<20 + 1} {
					o, err := run.Run(m, f, args, steps)
					if !reflect.DeepEqual(err, want) || !nothing(o) {
						t.Errorf("module %d: %+v, %v, want %v", i, o, err, want)
					}
				}
			}
		}
		seen[want.Error()]++
	}
	if len(seen) < 9 {
		t.Error("errors: ", seen)
	}
}

// busy is a module that does all that there is to do.
func busy() api.Module {
	return module(function(2, api.TypeInt, []int{1, 2, 1, 1, 2, 1},
		block(jump(1), constant(2, 1), constant(3, 3)),
		api.Block{
			Phis: []api.Phi{{Dst: 5, Args: []int{0, 2}}, {Dst: 2, Args: []int{2, 5}}, {Dst: 4, Args: []int{1, 4}}},
			Ins:  []api.Instr{out(5), store(3, 5), call(1, 3, 3, 4), op(api.OpNot, 4, 4), op(api.OpEq, 1, 3, 0)},
			Term: branch(1, 2, 1),
		},
		block(giveBack(5)),
	), function(2, api.TypeInt, []int{1, 2, 1},
		block(jump(1), constant(2, 1)),
		block(giveBack(0), load(2, 2), op(api.OpAdd, 0, 0, 2), out(0), store(2, 0)),
	))
}

// P4.2, R2: what is handed in stays as it is.
func TestHandedInStays(t *testing.T) {
	m, args := busy(), []int64{5, 1, 99}
	for _, steps := range []int{0, 1, 7, 100, 1000, -1} {
		run.Run(m, 0, args[:2], steps)
		run.Run(m, 0, args, steps)
		run.Run(m, 5, args[:2], steps)
		if !reflect.DeepEqual(m, busy()) || !slices.Equal(args, []int64{5, 1, 99}) {
			t.Fatal("changed: ", m, args)
		}
	}
	for i, m := range improper() {
		run.Run(m, 0, nil, 9)
		if !reflect.DeepEqual(m, improper()[i]) {
			t.Error("changed: module ", i)
		}
	}
}

// P4.2, R2: what is told is new memory, that goes neither with what was
// handed in nor with what is told later; and nothing is kept.
func TestToldIsNew(t *testing.T) {
	m, args := busy(), []int64{5, 1}
	first := ran(t, "first", m, 0, args, 1000)
	want := append([]int64(nil), first.Out...)
	if len(want) < 10 {
		t.Fatal("too little is put out: ", want)
	}
	second := ran(t, "second", m, 0, args, 1000)
	if !same(first, second) {
		t.Error("second: ", second, first)
	}
	whole := second.Out[:cap(second.Out)]
	for i := range whole {
		whole[i] = 77
	}
	args[0] = 77
	for _, f := range m.Funcs {
		for _, b := range f.Blocks {
			clear(b.Ins)
		}
	}
	if !slices.Equal(first.Out, want) {
		t.Error("what was told first became ", first.Out)
	}
	if third := ran(t, "third", busy(), 0, []int64{5, 1}, 1000); !same(third, first) {
		t.Error("third: ", third)
	}
}
