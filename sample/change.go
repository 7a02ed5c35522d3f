package sample

import (
	"slices"

	"fettle/api"
)

// Change changes a function in any one place: a register to another one of its
// type, the order of two instructions, whether one is there, or where a block
// leads to. What comes of it may not be proper.
func Change(pick Pick, f api.Func) {
	b := &f.Blocks[pick(len(f.Blocks))]
	i, regs := pick(1+len(b.Ins)), registersOf(b)
	switch kind := pick(12); {
	case kind == 0 && len(b.Term.To) == 2:
		b.Term = Jump(b.Term.To[pick(2)])
	case kind == 1 && i < len(b.Ins):
		b.Ins = slices.Delete(b.Ins, i, i+1)
	case kind < 4 && i < len(b.Ins) && i > 0:
		b.Ins[i-1], b.Ins[i] = b.Ins[i], b.Ins[i-1]
	case len(regs) > 0:
		reg := regs[pick(len(regs))]
		for was := *reg; ; {
			*reg = pick(1 + pick(len(f.Regs))) // most often low: parameters are
			if f.Regs[*reg] == f.Regs[was] {
				break
			}
		}
	}
}

// registersOf are where a block's registers stand that are made or named.
func registersOf(b *api.Block) []*int {
	var regs []*int
	several := func(l []int) {
		for i := range l {
			regs = append(regs, &l[i])
		}
	}
	for i := range b.Phis {
		regs = append(regs, &b.Phis[i].Dst)
		several(b.Phis[i].Args)
	}
	for i := range b.Ins {
		regs = append(regs, &b.Ins[i].Dst)
		several(b.Ins[i].Args)
	}
	regs = append(regs, &b.Term.Arg)
	return slices.DeleteFunc(regs, func(r *int) bool { return *r < 0 })
}

// mix lets one of a function's phis become another one of its block, or both
// each other, where they come from one of the blocks ahead: built functions have
// few that change places.
func mix(pick Pick, f api.Func) {
	var of [][]api.Phi
	for _, b := range f.Blocks {
		if len(b.Phis) > 1 && len(b.Phis[0].Args) > 0 {
			of = append(of, b.Phis)
		}
	}
	if len(of) == 0 {
		return
	}
	phis := of[pick(len(of))]
	at, n := pick(len(phis)), pick(len(phis[0].Args))
	p, q := phis[at], phis[(at+1+pick(len(phis)-1))%len(phis)]
	if f.Regs[p.Dst] == f.Regs[q.Dst] {
		p.Args[n] = q.Dst
		if pick(3) > 0 {
			q.Args[n] = p.Dst
		}
	}
}
