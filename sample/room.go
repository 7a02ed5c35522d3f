package sample

import (
	"slices"

	"fettle/api"
)

// roomy is a module that shares nothing with m. All of its lists have room
// behind them, where what is appended to one that was handed in is seen.
func roomy(m api.Module) api.Module {
	n := CopyModule(m)
	for i := range n.Funcs {
		n.Funcs[i] = lists{numbers: room[int], phis: room[api.Phi], ins: room[api.Instr], blocks: room[api.Block]}.of(n.Funcs[i])
	}
	n.Funcs = room(n.Funcs)
	return n
}

// wide is a module with all that its lists have room for.
func wide(m api.Module) api.Module {
	n := Module(all(m.Funcs)...)
	for i := range n.Funcs {
		n.Funcs[i] = lists{numbers: all[int], phis: all[api.Phi], ins: all[api.Instr], blocks: all[api.Block]}.of(n.Funcs[i])
	}
	return n
}

// room is a list with room behind it.
func room[E any](l []E) []E { return append(make([]E, 0, len(l)+3), l...) }

// all is a list, with what it has room for.
func all[E any](l []E) []E { return slices.Clone(l[:cap(l)]) }

// lists are what becomes of the lists of a function.
type lists struct {
	numbers func(l []int) []int
	phis    func(l []api.Phi) []api.Phi
	ins     func(l []api.Instr) []api.Instr
	blocks  func(l []api.Block) []api.Block
}

// of is a function with such lists; they are new ones.
func (k lists) of(f api.Func) api.Func {
	f.Regs, f.Blocks = k.numbers(f.Regs), k.blocks(f.Blocks)
	for i := range f.Blocks {
		b := &f.Blocks[i]
		b.Phis, b.Ins, b.Term.To = k.phis(b.Phis), k.ins(b.Ins), k.numbers(b.Term.To)
		for n := range b.Phis {
			b.Phis[n].Args = k.numbers(b.Phis[n].Args)
		}
		for n := range b.Ins {
			b.Ins[n].Args = k.numbers(b.Ins[n].Args)
		}
	}
	return f
}
