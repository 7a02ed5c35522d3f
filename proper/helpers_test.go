package proper_test

import (
	"math/rand"
	"reflect"
	"slices"
	"testing"

	"fettle/api"
	"fettle/proper"
	"fettle/sample"
	"fettle/ssa"
)

// What modules are built of here.
var (
	module, function, straight = sample.Module, sample.Function, sample.Straight
	block, ints                = sample.Block, sample.Ints
	jump, branch, giveBack     = sample.Jump, sample.Branch, sample.GiveBack
	constant, op, call         = sample.Constant, sample.Op, sample.Call
	out, load, store           = sample.Out, sample.Load, sample.Store
	phi, withPhis              = sample.Phi, sample.WithPhis
)

// add makes a register the sum of two.
func add(dst, a, b int) api.Instr { return op(api.OpAdd, dst, a, b) }

// none is the maker of a parameter, and of what isn't made.
var none = api.Maker{Block: -1, At: -2}

// atPhi is where a phi is.
const atPhi = -1

// by is what is made at a block's place.
func by(block, at int) api.Maker { return api.Maker{Block: block, At: at} }

// at is an error at a register.
func at(r int, err api.Code) error { return &api.Spot{At: r, Err: err} }

// formIs holds that this is told of the form of a module's f-th function.
func formIs(t *testing.T, what string, m api.Module, f int, want error) {
	t.Helper()
	if got := proper.Form(m, f); !sample.SameError(got, want) {
		t.Errorf("%s, function %d: Form: %v, want %v", what, f, got, want)
	}
}

// is holds that a function is of the form.
func is(t *testing.T, what string, f api.Func) {
	t.Helper()
	formIs(t, what, module(f), 0, nil)
}

// isNot holds that a function, alone and among others, isn't of the form.
func isNot(t *testing.T, what string, f api.Func, want error) {
	t.Helper()
	formIs(t, what, module(f), 0, want)
	formIs(t, what+", behind others", module(sample.Quiet(1), straight(2, 2, 0), f), 2, want)
}

// again is that a register is made more than once.
func again(t *testing.T, what string, f api.Func, r int) {
	t.Helper()
	isNot(t, what, f, at(r, api.ErrState))
}

// soon is that a register is an Arg of something that it isn't ahead of.
func soon(t *testing.T, what string, f api.Func, r int) {
	t.Helper()
	isNot(t, what, f, at(r, api.ErrNone))
}

// madeBy holds that a function's registers are made by these.
func madeBy(t *testing.T, what string, f api.Func, want ...api.Maker) {
	t.Helper()
	if got := proper.Makers(f); !slices.Equal(got, want) {
		t.Errorf("%s: Makers: %v, want %v", what, got, want)
	}
}

// unchanged holds that a module is as it was.
func unchanged(t *testing.T, what string, m, was api.Module) {
	t.Helper()
	if !reflect.DeepEqual(m, was) {
		t.Errorf("%s: handed in\n%v, now it is\n%v", what, was, m)
	}
}

// eachBuilt goes through modules of which a function was built by layer 12.
func eachBuilt(seed int64, do func(what string, r *rand.Rand, m api.Module, f int)) {
	r := rand.New(rand.NewSource(seed))
	sample.EachBuilt(r.Intn, ssa.Build, func(what string, m api.Module, f int) { do(what, r, m, f) })
}

// eachOdd goes through modules of any functions, proper or not.
func eachOdd(seed int64, do func(what string, r *rand.Rand, m api.Module)) {
	r := rand.New(rand.NewSource(seed))
	sample.EachOdd(r.Intn, func(what string, m api.Module) { do(what, r, m) })
}
