package lower_test

import (
	"slices"
	"testing"

	"fettle/api"
	"fettle/lower"
	"fettle/sample"
)

// What modules are built of here.
var (
	module, function, straight = sample.Module, sample.Function, sample.Straight
	block, ints                = sample.Block, sample.Ints
	jump, branch, giveBack     = sample.Jump, sample.Branch, sample.GiveBack
	constant, op, call         = sample.Constant, sample.Op, sample.Call
	out, load, store           = sample.Out, sample.Load, sample.Store
	phi, withPhis              = sample.Phi, sample.WithPhis
)

// add makes a register the sum of two.
func add(dst, a, b int) api.Instr { return op(api.OpAdd, dst, a, b) }

// dup copies a register.
func dup(dst, from int) api.Instr { return op(api.OpCopy, dst, from) }

// build is what is tested.
var build = sample.Builder(lower.Lower)

// pairs are moves.
type pairs = [][2]int

// moves holds that this is told of moves, and of which registers the new ones
// are copies.
func moves(t *testing.T, what string, l pairs, next int, want pairs, copied ...int) {
	t.Helper()
	done, from, err := lower.Moves(l, next)
	if err != nil || !slices.Equal(done, want) || !slices.Equal(from, copied) {
		t.Errorf("%s, %v, next %d: %v, copies %v, %v, want %v, copies %v", what, l, next, done, from, err, want, copied)
	}
}

// noMoves holds that moves are refused, and that nothing is told beside.
func noMoves(t *testing.T, what string, l pairs, next int) {
	t.Helper()
	done, from, err := lower.Moves(l, next)
	if err != error(api.ErrArg) || done != nil || from != nil {
		t.Errorf("%s, %v, next %d: %v, copies %v, %v, want %v alone", what, l, next, done, from, err, api.ErrArg)
	}
}
