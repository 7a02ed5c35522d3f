package ssa

import (
	"slices"

	"fettle/api"
	"fettle/dom"
)

// phisOf are of each block the old registers that it has phis of, by rising ones.
func phisOf(old api.Func, wanted [][]bool) [][]int {
	phis := make([][]int, len(old.Blocks))
	frontier := dom.Frontier(old)
	for r, makers := range makersOf(old) {
		for b, is := range closed(frontier, makers) {
			if is && wanted[b][r] {
				phis[b] = append(phis[b], r)
			}
		}
	}
	return phis
}

// makersOf are of each old register the blocks that make it.
func makersOf(old api.Func) [][]int {
	makers := make([][]int, len(old.Regs))
	for r := range makers {
		makers[r] = []int{0}
	}
	for i, b := range old.Blocks {
		for _, in := range b.Ins {
			if in.Dst >= 0 {
				makers[in.Dst] = append(makers[in.Dst], i)
			}
		}
	}
	return makers
}

// closed tells of each block whether it is in the closed frontier of a register
// that these make.
func closed(frontier [][]int, makers []int) []bool {
	is := make([]bool, len(frontier))
	open := slices.Clone(makers)
	for len(open) > 0 {
		last := open[len(open)-1]
		open = open[:len(open)-1]
		for _, b := range frontier[last] {
			if !is[b] {
				is[b] = true
				open = append(open, b)
			}
		}
	}
	return is
}
