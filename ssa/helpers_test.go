package ssa_test

import (
	"fmt"
	"math/rand"

	"fettle/api"
	"fettle/sample"
	"fettle/ssa"
)

// What modules are built of here.
var (
	module, function, straight = sample.Module, sample.Function, sample.Straight
	block, ints                = sample.Block, sample.Ints
	jump, branch, giveBack     = sample.Jump, sample.Branch, sample.GiveBack
	constant, op, call         = sample.Constant, sample.Op, sample.Call
	out, load, store           = sample.Out, sample.Load, sample.Store
	phi, withPhis              = sample.Phi, sample.WithPhis
)

// add makes a register the sum of two.
func add(dst, a, b int) api.Instr { return op(api.OpAdd, dst, a, b) }

// dup copies a register.
func dup(dst, from int) api.Instr { return op(api.OpCopy, dst, from) }

// same tells whether two answers are alike: lists of no elements may be nil.
func same(a, b any) bool { return fmt.Sprint(a) == fmt.Sprint(b) }

// build is what is tested.
var build = sample.Builder(ssa.Build)

// eachPlain goes through functions of plain modules.
func eachPlain(seed int64, by func(what string, r *rand.Rand, m api.Module, f int)) {
	r := rand.New(rand.NewSource(seed))
	sample.EachPlain(r.Intn, func(what string, m api.Module, f int) { by(what, r, m, f) })
}
