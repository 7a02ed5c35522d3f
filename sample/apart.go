package sample

import (
	"slices"

	"fettle/api"
)

// Apart holds that no two lists of these functions share any, however far
// their memory goes: what is written over one isn't seen in another one. It
// writes over all of them.
func Apart(t Test, what string, l ...api.Func) {
	t.Helper()
	var numbers [][]int
	var phis [][]api.Phi
	var ins [][]api.Instr
	var blocks [][]api.Block
	for _, f := range l {
		numbers, blocks = append(numbers, numbersOf(f)...), append(blocks, f.Blocks)
		for _, b := range f.Blocks {
			phis, ins = append(phis, b.Phis), append(ins, b.Ins)
		}
	}
	apart(t, what+", numbers", numbers, func(e *int) *int { return e })
	apart(t, what+", phis", phis, func(e *api.Phi) *int { return &e.Dst })
	apart(t, what+", instructions", ins, func(e *api.Instr) *int { return &e.Op })
	apart(t, what+", blocks", blocks, func(e *api.Block) *int { return &e.Term.Kind })
}

// numbersOf are all lists of numbers of a function.
func numbersOf(f api.Func) [][]int {
	l := [][]int{f.Regs}
	for _, b := range f.Blocks {
		l = append(l, b.Term.To)
		for _, p := range b.Phis {
			l = append(l, p.Args)
		}
		for _, in := range b.Ins {
			l = append(l, in.Args)
		}
	}
	return l
}

// apart holds that no two of these lists share any: each has its own number
// written over all that it has, in this place of theirs.
func apart[E any](t Test, what string, lists [][]E, place func(e *E) *int) {
	t.Helper()
	for n, l := range lists {
		l = l[:cap(l)]
		for i := range l {
			*place(&l[i]) = -n
		}
	}
	for n, l := range lists {
		if slices.ContainsFunc(l[:cap(l)], func(e E) bool { return *place(&e) != -n }) {
			t.Error(what, ": list ", n, " shares with another one")
		}
	}
}
