package run_test

import (
	"slices"
	"testing"

	"fettle/api"
	"fettle/run"
	"fettle/sample"
)

// What modules are built of here.
var (
	module, function, straight = sample.Module, sample.Function, sample.Straight
	quiet, sum, endless        = sample.Quiet, sample.Sum, sample.Endless
	block, ints                = sample.Block, sample.Ints
	jump, branch, giveBack     = sample.Jump, sample.Branch, sample.GiveBack
	constant, op, call         = sample.Constant, sample.Op, sample.Call
	out, load, store           = sample.Out, sample.Load, sample.Store
)

// done is what comes of a run that returned, or trapped.
func done(value int64, steps int, out ...int64) api.Outcome {
	return api.Outcome{Done: true, Value: value, Steps: steps, Out: out}
}

// trapped is what comes of a run that trapped.
func trapped(trap, steps int, out ...int64) api.Outcome {
	return api.Outcome{Done: true, Trap: trap, Steps: steps, Out: out}
}

// stopped is what comes of a run that had no step left.
func stopped(steps int, out ...int64) api.Outcome {
	return api.Outcome{Steps: steps, Out: out}
}

// with is the same with a word of memory.
func with(o api.Outcome, at int, word int64) api.Outcome {
	o.Memory[at] = word
	return o
}

// same tells whether two outcomes are alike.
func same(a, b api.Outcome) bool {
	return a.Done == b.Done && a.Trap == b.Trap && a.Value == b.Value && a.Steps == b.Steps &&
		a.Memory == b.Memory && slices.Equal(a.Out, b.Out)
}

// ran is what comes of a run that isn't refused.
func ran(t *testing.T, what string, m api.Module, f int, args []int64, steps int) api.Outcome {
	t.Helper()
	o, err := run.Run(m, f, args, steps)
	if err != nil {
		t.Fatalf("%s: %v", what, err)
	}
	return o
}

// comes holds that a function comes to that, with so many steps.
func comes(t *testing.T, what string, m api.Module, f int, args []int64, steps int, want api.Outcome) {
	t.Helper()
	if o := ran(t, what, m, f, args, steps); !same(o, want) {
		t.Errorf("%s, %v, %d steps: %+v, want %+v", what, args, steps, o, want)
	}
}

// enough is as many steps as a run may have.
const enough = api.MaxRun

// does holds that a module's first function comes to that: with steps enough,
// with just as many as it takes, and, with one less, to nothing.
func does(t *testing.T, what string, m api.Module, args []int64, want api.Outcome) {
	t.Helper()
	comes(t, what, m, 0, args, enough, want)
	comes(t, what, m, 0, args, want.Steps, want)
	o := ran(t, what, m, 0, args, want.Steps-1)
	if o.Done || o.Trap != 0 || o.Value != 0 || o.Steps != want.Steps-1 {
		t.Errorf("%s, %v, with a step less: %+v", what, args, o)
	}
}

// nothing is what is answered beside an error.
func nothing(o api.Outcome) bool { return same(o, api.Outcome{}) }
