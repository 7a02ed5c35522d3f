package graph

import (
	"slices"

	"fettle/api"
)

// Trim takes away all others: P5.2.
func Trim(f api.Func) (api.Func, []int) {
	reached := Reached(f)
	numbers := numbersOf(reached)
	ahead := aheadOf(f)
	g := f
	g.Regs, g.Blocks = slices.Clone(f.Regs), nil
	for i, b := range f.Blocks {
		if reached[i] {
			g.Blocks = append(g.Blocks, api.Block{
				Phis: phisOf(b.Phis, ahead[i], reached),
				Ins:  insOf(b.Ins),
				Term: termOf(b.Term, numbers),
			})
		}
	}
	return g, numbers
}

// numbersOf are the new numbers of all blocks, -1 of those that go.
func numbersOf(reached []bool) []int {
	numbers := make([]int, len(reached))
	many := 0
	for i, is := range reached {
		if !is {
			numbers[i] = -1
			continue
		}
		numbers[i] = many
		many++
	}
	return numbers
}

// aheadOf are the blocks ahead of each, by rising numbers.
func aheadOf(f api.Func) [][]int {
	ahead := make([][]int, len(f.Blocks))
	for from, tos := range Next(f) {
		for _, to := range tos {
			ahead[to] = append(ahead[to], from)
		}
	}
	return ahead
}

// phisOf are a block's phis without the Args that stood for blocks that go.
func phisOf(phis []api.Phi, ahead []int, reached []bool) []api.Phi {
	var left []api.Phi
	for _, p := range phis {
		p.Args = argsOf(p.Args, ahead, reached)
		left = append(left, p)
	}
	return left
}

// argsOf are a phi's Args without those that stood for blocks that go.
func argsOf(args, ahead []int, reached []bool) []int {
	if len(args) != len(ahead) {
		return slices.Clone(args)
	}
	var left []int
	for i, a := range args {
		if reached[ahead[i]] {
			left = append(left, a)
		}
	}
	return left
}

// insOf are the same instructions in new memory.
func insOf(ins []api.Instr) []api.Instr {
	same := slices.Clone(ins)
	for i := range same {
		same[i].Args = slices.Clone(same[i].Args)
	}
	return same
}

// termOf is an end whose Tos are the new numbers.
func termOf(t api.Term, numbers []int) api.Term {
	t.To = slices.Clone(t.To)
	for i, to := range t.To {
		if to >= 0 && to < len(numbers) {
			t.To[i] = numbers[to]
		}
	}
	return t
}
