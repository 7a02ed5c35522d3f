package ssa_test

import (
	"errors"
	"fmt"
	"math/rand"
	"reflect"
	"testing"

	"fettle/api"
	"fettle/sample"
	"fettle/ssa"
)

// What modules are built of here.
var (
	module, function, straight = sample.Module, sample.Function, sample.Straight
	block, ints                = sample.Block, sample.Ints
	jump, branch, giveBack     = sample.Jump, sample.Branch, sample.GiveBack
	constant, op, call         = sample.Constant, sample.Op, sample.Call
	out, load, store           = sample.Out, sample.Load, sample.Store
)

// add makes a register the sum of two.
func add(dst, a, b int) api.Instr { return op(api.OpAdd, dst, a, b) }

// dup copies a register.
func dup(dst, from int) api.Instr { return op(api.OpCopy, dst, from) }

// phi is one.
func phi(dst int, args ...int) api.Phi { return api.Phi{Dst: dst, Args: args} }

// withPhis is a block with phis.
func withPhis(b api.Block, phis ...api.Phi) api.Block {
	b.Phis = phis
	return b
}

// same tells whether two answers are alike: lists of no elements may be nil.
func same(a, b any) bool { return fmt.Sprint(a) == fmt.Sprint(b) }

// told is a function as text, a line a block.
func told(f api.Func) string {
	s := fmt.Sprintf("%d parameters, result %d, registers %v", f.Params, f.Result, f.Regs)
	for _, b := range f.Blocks {
		s += fmt.Sprintf("\n\t%v", b)
	}
	return s
}

// built is what a module's f-th function is built to.
func built(t *testing.T, what string, m api.Module, f int) api.Func {
	t.Helper()
	g, err := ssa.Build(m, f)
	if err != nil {
		t.Fatalf("%s: %v", what, err)
	}
	return g
}

// is holds that a module's f-th function is built to that.
func is(t *testing.T, what string, m api.Module, f int, want api.Func) {
	t.Helper()
	if got := built(t, what, m, f); !same(got, want) {
		t.Errorf("%s:\n%s\nwant\n%s", what, told(got), told(want))
	}
}

// builds holds that a function is built to that.
func builds(t *testing.T, what string, f, want api.Func) {
	t.Helper()
	is(t, what, module(f), 0, want)
}

// sameError tells whether an error is such a Code itself, or such a Spot.
func sameError(got, want error) bool {
	var a, b *api.Spot
	if errors.As(got, &a) && errors.As(want, &b) {
		return *a == *b
	}
	return got == want
}

// refused holds that a function isn't built, and that nothing is told beside.
func refused(t *testing.T, what string, m api.Module, f int, want error) {
	t.Helper()
	g, err := ssa.Build(m, f)
	if !sameError(err, want) || !reflect.DeepEqual(g, api.Func{}) {
		t.Errorf("%s, function %d: %v, %v, want %v alone", what, f, g, err, want)
	}
}

// unchanged holds that a module is as it was.
func unchanged(t *testing.T, what string, m, was api.Module) {
	t.Helper()
	if !reflect.DeepEqual(m, was) {
		t.Errorf("%s: handed in\n%v, now it is\n%v", what, was, m)
	}
}

// eachPlain goes through the functions of any plain modules, and then through
// functions of many blocks, over few registers.
func eachPlain(seed int64, by func(what string, r *rand.Rand, m api.Module, f int)) {
	r := rand.New(rand.NewSource(seed))
	for i := range 900 {
		m := sample.Plain(r.Intn)
		for f := range m.Funcs {
			by(fmt.Sprintf("module %d, function %d", i, f), r, m, f)
		}
	}
	for i := range 900 {
		by(fmt.Sprint("far ", i), r, module(far(r, api.MaxBlocks-r.Intn(api.MaxBlocks-1)/(1+i%4))), 0)
	}
}

// far is a function of so many blocks, that lead to the next one most often,
// else to one that is near, or any.
func far(r *rand.Rand, blocks int) api.Func {
	f := function(2, api.TypeInt, []int{1, 2, 1, 1, 2, 1, 1})
	rarely, least := 1+r.Intn(9), r.Intn(4)
	to := func(near int) int {
		if r.Intn(rarely) == 0 {
			return 1 + r.Intn(blocks-1)
		}
		return min(max(1, near), blocks-1)
	}
	for i := range blocks {
		a, b := to(i+1), to(i-4+r.Intn(9))
		end := jump(a)
		if a != b && r.Intn(4) > 0 {
			end = branch([]int{1, 4}[r.Intn(2)], a, b)
		}
		if r.Intn(20) == 0 {
			end = giveBack([]int{0, 2}[r.Intn(2)])
		}
		f.Blocks = append(f.Blocks, block(end, farInstrs(r, least)...))
	}
	return f
}

// farInstrs are up to three instructions of such a function, at least so many.
func farInstrs(r *rand.Rand, least int) []api.Instr {
	all := []api.Instr{
		add(0, 0, 2), add(2, 3, 0), add(3, 2, 2), dup(0, 3), dup(4, 1), dup(1, 4), constant(2, 7), constant(4, 1),
		out(0), out(2), out(3), op(api.OpLt, 1, 2, 0), op(api.OpNot, 4, 4), op(api.OpXor, 3, 3, 0), add(5, 6, 5), add(6, 5, 6), out(5), dup(3, 6),
	}
	var ins []api.Instr
	for range least + r.Intn(4-least) {
		ins = append(ins, all[r.Intn(len(all))])
	}
	return ins
}

// numbersOf are all lists of numbers of a function.
func numbersOf(f api.Func) [][]int {
	l := [][]int{f.Regs}
	for _, b := range f.Blocks {
		l = append(l, b.Term.To)
		for _, p := range b.Phis {
			l = append(l, p.Args)
		}
		for _, in := range b.Ins {
			l = append(l, in.Args)
		}
	}
	return l
}
