package ssa_test

import (
	"fmt"
	"math/rand"
	"reflect"
	"testing"

	"fettle/api"
	"fettle/sample"
	"fettle/ssa"
)

// What modules are built of here.
var (
	module, function, straight = sample.Module, sample.Function, sample.Straight
	block, ints                = sample.Block, sample.Ints
	jump, branch, giveBack     = sample.Jump, sample.Branch, sample.GiveBack
	constant, op, call         = sample.Constant, sample.Op, sample.Call
	out, load, store           = sample.Out, sample.Load, sample.Store
	phi, withPhis              = sample.Phi, sample.WithPhis
)

// add makes a register the sum of two.
func add(dst, a, b int) api.Instr { return op(api.OpAdd, dst, a, b) }

// dup copies a register.
func dup(dst, from int) api.Instr { return op(api.OpCopy, dst, from) }

// same tells whether two answers are alike: lists of no elements may be nil.
func same(a, b any) bool { return fmt.Sprint(a) == fmt.Sprint(b) }

// told is a function as text, a line a block.
func told(f api.Func) string {
	s := fmt.Sprintf("%d parameters, result %d, registers %v", f.Params, f.Result, f.Regs)
	for _, b := range f.Blocks {
		s += fmt.Sprintf("\n\t%v", b)
	}
	return s
}

// built is what a module's f-th function is built to.
func built(t *testing.T, what string, m api.Module, f int) api.Func {
	t.Helper()
	g, err := ssa.Build(m, f)
	if err != nil {
		t.Fatalf("%s: %v", what, err)
	}
	return g
}

// is holds that a module's f-th function is built to that.
func is(t *testing.T, what string, m api.Module, f int, want api.Func) {
	t.Helper()
	if got := built(t, what, m, f); !same(got, want) {
		t.Errorf("%s:\n%s\nwant\n%s", what, told(got), told(want))
	}
}

// builds holds that a function is built to that.
func builds(t *testing.T, what string, f, want api.Func) {
	t.Helper()
	is(t, what, module(f), 0, want)
}

// refused holds that a function isn't built, and that nothing is told beside.
func refused(t *testing.T, what string, m api.Module, f int, want error) {
	t.Helper()
	g, err := ssa.Build(m, f)
	if !sample.SameError(err, want) || !reflect.DeepEqual(g, api.Func{}) {
		t.Errorf("%s, function %d: %v, %v, want %v alone", what, f, g, err, want)
	}
}

// unchanged holds that a module is as it was.
func unchanged(t *testing.T, what string, m, was api.Module) {
	t.Helper()
	if !reflect.DeepEqual(m, was) {
		t.Errorf("%s: handed in\n%v, now it is\n%v", what, was, m)
	}
}

// eachPlain goes through functions of plain modules.
func eachPlain(seed int64, by func(what string, r *rand.Rand, m api.Module, f int)) {
	r := rand.New(rand.NewSource(seed))
	sample.EachPlain(r.Intn, func(what string, m api.Module, f int) { by(what, r, m, f) })
}

// numbersOf are all lists of numbers of a function.
func numbersOf(f api.Func) [][]int {
	l := [][]int{f.Regs}
	for _, b := range f.Blocks {
		l = append(l, b.Term.To)
		for _, p := range b.Phis {
			l = append(l, p.Args)
		}
		for _, in := range b.Ins {
			l = append(l, in.Args)
		}
	}
	return l
}
