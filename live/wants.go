package live

import (
	"fettle/api"
	"fettle/check"
)

// place is a register at a block's beginning.
type place struct{ block, reg int }

// wants are the registers that are wanted in a function, as far as was seen.
type wants struct {
	ahead           [][]int
	makes, phisMake [][]bool
	beginning, end  [][]bool
	open            []place // wanted there, which the blocks ahead weren't told
}

// wantsOf are all that are wanted in a proper function: a register is wanted
// from where it is used backwards, till it is made.
func wantsOf(f api.Func) *wants {
	many, regs := len(f.Blocks), len(f.Regs)
	w := &wants{
		ahead:     check.Ahead(f),
		makes:     truths(many, regs),
		phisMake:  truths(many, regs),
		beginning: truths(many, regs),
		end:       truths(many, regs),
	}
	uses := make([][]int, many)
	for i, b := range f.Blocks {
		uses[i] = usesOf(b, w.makes[i])
		for _, p := range b.Phis {
			w.phisMake[i][p.Dst] = true
		}
	}
	for i, b := range f.Blocks {
		for _, r := range uses[i] {
			w.atBeginning(i, r)
		}
		w.alongEdges(i, b.Phis)
	}
	w.goBack()
	return w
}

// truths are so many rows of so many, none of which holds.
func truths(rows, many int) [][]bool {
	t := make([][]bool, rows)
	for i := range t {
		t[i] = make([]bool, many)
	}
	return t
}

// usesOf are the registers that a block uses; makes becomes those that it makes.
func usesOf(b api.Block, makes []bool) []int {
	var uses []int
	use := func(r int) {
		if !makes[r] {
			uses = append(uses, r)
		}
	}
	for _, in := range b.Ins {
		for _, r := range in.Args {
			use(r)
		}
		if in.Dst >= 0 {
			makes[in.Dst] = true
		}
	}
	if b.Term.Arg >= 0 {
		use(b.Term.Arg)
	}
	return uses
}

// alongEdges wants what a block's phis use at the ends of the blocks ahead.
func (w *wants) alongEdges(b int, phis []api.Phi) {
	for _, p := range phis {
		for i, from := range w.ahead[b] {
			w.atEnd(from, p.Args[i])
		}
	}
}

// atEnd wants a register at a block's end.
func (w *wants) atEnd(b, reg int) {
	if w.end[b][reg] {
		return
	}
	w.end[b][reg] = true
	if !w.makes[b][reg] {
		w.atBeginning(b, reg)
	}
}

// atBeginning wants a register at a block's beginning, unless its phis make it.
func (w *wants) atBeginning(b, reg int) {
	if w.beginning[b][reg] || w.phisMake[b][reg] {
		return
	}
	w.beginning[b][reg] = true
	w.open = append(w.open, place{b, reg})
}

// goBack wants at the ends of the blocks ahead what is wanted at a beginning.
func (w *wants) goBack() {
	for len(w.open) > 0 {
		p := w.open[len(w.open)-1]
		w.open = w.open[:len(w.open)-1]
		for _, from := range w.ahead[p.block] {
			w.atEnd(from, p.reg)
		}
	}
}
