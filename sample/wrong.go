package sample

import (
	"errors"
	"math"
	"slices"

	"fettle/api"
)

// Beyond are numbers of none of so many.
func Beyond(many int) []int {
	return []int{-1, -2, math.MinInt, many, many + 1, 1 << 40, math.MaxInt}
}

// SameError tells whether an error is the other one: such a Code itself, or
// such a Spot.
func SameError(a, b error) bool {
	var at, other *api.Spot
	if errors.As(a, &at) && errors.As(b, &other) {
		return *at == *other
	}
	return a == b
}

// NotProper are functions that make no proper module, even of themselves alone.
func NotProper() []api.Func {
	many := func(blocks int) api.Func {
		return Function(0, 0, nil, slices.Repeat([]api.Block{Block(Jump(1))}, blocks)...)
	}
	phis := func(l ...api.Phi) api.Func {
		return Function(2, 0, []int{1, 2, 1}, Block(Jump(1)), WithPhis(Block(Branch(1, 1, 2)), l...), Block(GiveBack(-1)))
	}
	return []api.Func{
		{}, Function(0, 0, nil), many(1), many(api.MaxBlocks + 1),
		Quiet(api.MaxRegs + 1),
		Straight(1, 1, 0, slices.Repeat([]api.Instr{Out(0)}, api.MaxIns)...),
		Function(0, 0, []int{7}, Block(GiveBack(-1))),
		Function(9, 0, Ints(9), Block(GiveBack(-1))),
		Function(0, 0, nil, Block(Jump(0))),
		Function(0, 0, nil, Block(Jump(1)), Block(Jump(2)), Block(Jump(3))),
		Straight(0, 1, 1), Straight(0, 1, -1),
		Straight(0, 1, 0, Out(math.MinInt)),
		Straight(0, 1, 0, Op(api.OpCopy, -1, 0)),
		Straight(0, 1, 0, Op(19, 0, 0)),
		Straight(0, 1, 0, Call(9, 0)),
		phis(Phi(2, 0)), phis(Phi(2, 0, 1)), phis(Phi(2, 0, 0), Phi(3, 0, 0)),
		Function(1, 1, Ints(1), WithPhis(Block(GiveBack(0)), Phi(0, 0))),
	}
}
