package ssa

import (
	"slices"

	"fettle/api"
	"fettle/check"
	"fettle/dom"
	"fettle/graph"
)

// outline is the new function with all its registers, that has no phi's Args
// yet, and names old registers as Args elsewhere. Which version is where hangs
// on how blocks lead, but the new registers' numbers on the blocks' alone: so
// they come first.
func outline(old api.Func, phis [][]int) api.Func {
	g := api.Func{Params: old.Params, Result: old.Result, Regs: slices.Clone(old.Regs[:old.Params])}
	version := func(r int) int {
		g.Regs = append(g.Regs, old.Regs[r])
		return len(g.Regs) - 1
	}
	for i, b := range old.Blocks {
		c := api.Block{Term: b.Term}
		for _, r := range phis[i] {
			c.Phis = append(c.Phis, api.Phi{Dst: version(r)})
		}
		for _, in := range b.Ins {
			if in.Dst >= 0 {
				in.Dst = version(in.Dst)
			}
			c.Ins = append(c.Ins, in)
		}
		g.Blocks = append(g.Blocks, c)
	}
	return g
}

// nameArgs gives an outline's Args their versions.
func nameArgs(g, old api.Func, phis [][]int) {
	end := make([][]int, len(old.Blocks)) // of each block the old registers' versions there
	nearest := dom.Nearest(old)
	for _, b := range graph.Order(old) { // a block's nearest is ahead of it there
		at := entered(old)
		if nearest[b] >= 0 {
			at = slices.Clone(end[nearest[b]])
		}
		for i, r := range phis[b] {
			at[r] = g.Blocks[b].Phis[i].Dst
		}
		nameWithin(&g.Blocks[b], old.Blocks[b], at)
		end[b] = at
	}
	for b, ahead := range check.Ahead(old) {
		for i, r := range phis[b] {
			p := &g.Blocks[b].Phis[i]
			for _, from := range ahead {
				p.Args = append(p.Args, end[from][r])
			}
		}
	}
}

// noVersion is that of a register that nothing wants.
const noVersion = -1

// entered are the old registers' versions ahead of all.
func entered(old api.Func) []int {
	at := make([]int, len(old.Regs))
	for r := range at {
		at[r] = noVersion
		if r < old.Params {
			at[r] = r
		}
	}
	return at
}

// nameWithin gives a block's instructions and its end their versions; at are
// those behind its phis, and become those at its end.
func nameWithin(b *api.Block, old api.Block, at []int) {
	for i := range b.Ins {
		in := &b.Ins[i]
		in.Args = versionsOf(in.Args, at)
		if in.Dst >= 0 {
			at[old.Ins[i].Dst] = in.Dst
		}
	}
	if b.Term.Arg >= 0 {
		b.Term.Arg = at[b.Term.Arg]
	}
}

// versionsOf are the versions of these.
func versionsOf(regs, at []int) []int {
	var versions []int
	for _, r := range regs {
		versions = append(versions, at[r])
	}
	return versions
}
