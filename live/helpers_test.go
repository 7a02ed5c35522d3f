package live_test

import (
	"fmt"
	"math/rand"
	"reflect"
	"slices"
	"testing"

	"fettle/api"
	"fettle/live"
	"fettle/sample"
)

// What modules are built of here.
var (
	module, function, straight = sample.Module, sample.Function, sample.Straight
	block, ints                = sample.Block, sample.Ints
	jump, branch, giveBack     = sample.Jump, sample.Branch, sample.GiveBack
	constant, op, call         = sample.Constant, sample.Op, sample.Call
	out, load, store           = sample.Out, sample.Load, sample.Store
	phi, withPhis              = sample.Phi, sample.WithPhis
)

// at are the registers that are wanted at a block's beginning, and at its end.
type at struct{ beginning, end []int }

// none are no registers.
var none []int

// those are registers that hold, by rising numbers.
func those(truths []bool) []int {
	var l []int
	for r, is := range truths {
		if is {
			l = append(l, r)
		}
	}
	return l
}

// told is what Live tells of a module's function, block by block.
func told(t *testing.T, what string, m api.Module, f int) []at {
	t.Helper()
	beginning, end, err := live.Live(m, f)
	blocks, regs := len(m.Funcs[f].Blocks), len(m.Funcs[f].Regs)
	if err != nil || len(beginning) != blocks || len(end) != blocks {
		t.Fatalf("%s: Live: %d and %d of %d blocks, %v", what, len(beginning), len(end), blocks, err)
	}
	var l []at
	for b := range beginning {
		if len(beginning[b]) != regs || len(end[b]) != regs {
			t.Fatalf("%s: Live: block %d: %d and %d of %d registers", what, b, len(beginning[b]), len(end[b]), regs)
		}
		l = append(l, at{those(beginning[b]), those(end[b])})
	}
	return l
}

// same tells whether two answers are alike: lists of no elements may be nil.
func same(a, b []at) bool {
	return slices.EqualFunc(a, b, func(x, y at) bool {
		return slices.Equal(x.beginning, y.beginning) && slices.Equal(x.end, y.end)
	})
}

// wanted holds that these are wanted in a module's first function.
func wanted(t *testing.T, what string, m api.Module, want ...at) {
	t.Helper()
	if got := told(t, what, m, 0); !same(got, want) {
		t.Errorf("%s: Live: %v, want %v", what, got, want)
	}
}

// named holds that the registers of a module's first function are named so often.
func named(t *testing.T, what string, m api.Module, want ...int) {
	t.Helper()
	if got, err := live.Count(m, 0); err != nil || !slices.Equal(got, want) {
		t.Errorf("%s: Count: %v, %v, want %v", what, got, err, want)
	}
}

// unchanged holds that a module is as it was.
func unchanged(t *testing.T, what string, m, was api.Module) {
	t.Helper()
	if !reflect.DeepEqual(m, was) {
		t.Errorf("%s: handed in\n%v, now it is\n%v", what, was, m)
	}
}

// eachProper goes through the functions of any proper modules.
func eachProper(seed int64, by func(what string, r *rand.Rand, m api.Module, f int)) {
	r := rand.New(rand.NewSource(seed))
	for i := range 900 {
		m := sample.Any(r.Intn)
		for f := range m.Funcs {
			by(fmt.Sprintf("module %d, function %d", i, f), r, m, f)
		}
	}
}
