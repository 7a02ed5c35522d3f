package sample

import (
	"slices"

	"fettle/api"
)

// Pick picks a number of 0 to n - 1.
type Pick func(n int) int

// maker makes functions of any blocks, that may call all of heads.
type maker struct {
	pick  Pick
	heads []api.Func
	f     api.Func
}

// Any is a proper module of any functions, with phis.
func Any(pick Pick) api.Module {
	k := &maker{pick: pick}
	for range 1 + pick(4) {
		k.heads = append(k.heads, k.head())
	}
	var m api.Module
	for _, f := range k.heads {
		m.Funcs = append(m.Funcs, k.fill(f))
	}
	return m
}

// Plain is a plain module of any functions.
func Plain(pick Pick) api.Module {
	m := Any(pick)
	for _, f := range m.Funcs {
		for i := range f.Blocks {
			f.Blocks[i].Phis = nil
		}
	}
	return m
}

// Args are arguments that a function may be entered with.
func Args(pick Pick, f api.Func) []int64 {
	k := &maker{pick: pick}
	args := make([]int64, f.Params)
	for i := range args {
		args[i] = int64(pick(2))
		if f.Regs[i] == api.TypeInt && pick(2) == 0 {
			args[i] = k.number()
		}
	}
	return args
}

// head is a function's parameters, result and registers: of each type some
// at least, the last but two an int.
func (k *maker) head() api.Func {
	f := api.Func{Params: k.pick(4), Result: k.pick(3), Regs: []int{}}
	for range 4 + k.pick(8) {
		f.Regs = append(f.Regs, 1+k.pick(2))
	}
	f.Regs = append(f.Regs, 1, 2, 1, 2, 1)
	return f
}

// fill gives a function its blocks.
func (k *maker) fill(f api.Func) api.Func {
	k.f = f
	k.f.Blocks = make([]api.Block, 3+k.pick(9))
	for i := range k.f.Blocks {
		b := &k.f.Blocks[i]
		for range k.pick(4) {
			b.Ins = append(b.Ins, k.instrs()...)
		}
		b.Term = k.end()
		if i != 2 && k.pick(3) > 0 {
			k.counted(b)
		}
	}
	for to := range k.f.Blocks {
		k.phis(to)
	}
	return k.f
}

// reg is any register of a type.
func (k *maker) reg(typ int) int {
	for {
		if r := k.pick(len(k.f.Regs)); k.f.Regs[r] == typ {
			return r
		}
	}
}

// to is any block but the first, and but one.
func (k *maker) to(but int) int {
	for {
		if to := 1 + k.pick(len(k.f.Blocks)-1); to != but {
			return to
		}
	}
}

// end is any end.
func (k *maker) end() api.Term {
	first := k.to(-1)
	switch k.pick(3) {
	case 0:
		return Jump(first)
	case 1:
		return Branch(k.reg(api.TypeBool), first, k.to(first))
	}
	if k.f.Result == api.TypeNone {
		return GiveBack(-1)
	}
	return GiveBack(k.reg(k.f.Result))
}

// counted ends a block by how often such ends were come to: so a loop ends,
// but not at once.
func (k *maker) counted(b *api.Block) {
	n := len(k.f.Regs) - 3 // an int: see head
	limit, truth := k.reg(api.TypeInt), k.reg(api.TypeBool)
	b.Ins = append(b.Ins, Constant(limit, 1), Op(api.OpAdd, n, n, limit),
		Constant(limit, int64(k.pick(40))), Op(api.OpLt, truth, n, limit))
	first := k.to(-1)
	b.Term = Branch(truth, first, k.to(first))
}

// phis gives a block some phis, none of them of one Dst.
func (k *maker) phis(to int) {
	b := &k.f.Blocks[to]
	for range k.pick(4) {
		p := api.Phi{Dst: k.reg(1 + k.pick(2))}
		if slices.ContainsFunc(b.Phis, func(q api.Phi) bool { return q.Dst == p.Dst }) {
			continue
		}
		for _, from := range k.f.Blocks {
			if slices.Contains(from.Term.To, to) {
				p.Args = append(p.Args, k.reg(k.f.Regs[p.Dst]))
			}
		}
		b.Phis = append(b.Phis, p)
	}
}

// calling is a call of any function.
func (k *maker) calling() api.Instr {
	fun := k.pick(len(k.heads))
	in := Call(fun, -1)
	for _, typ := range k.heads[fun].Regs[:k.heads[fun].Params] {
		in.Args = append(in.Args, k.reg(typ))
	}
	if typ := k.heads[fun].Result; typ != api.TypeNone {
		in.Dst = k.reg(typ)
	}
	return in
}

// number is any number, small or not.
func (k *maker) number() int64 {
	n := int64(k.pick(1<<31))<<33 ^ int64(k.pick(1<<31))<<11 ^ int64(k.pick(1<<11))
	return n >> k.pick(64)
}

// instrs are any instruction, and what it needs. Words are loaded and stored
// most often at a constant of just before, so that not all of them trap.
func (k *maker) instrs() []api.Instr {
	a, b, c := k.reg(api.TypeInt), k.reg(api.TypeInt), k.reg(api.TypeInt)
	truth := k.reg(api.TypeBool)
	small := Constant(a, int64(k.pick(66)))
	switch k.pick(24) {
	case 0:
		return []api.Instr{Constant(a, k.number())}
	case 1:
		return []api.Instr{Constant(truth, int64(k.pick(2)))}
	case 2:
		return []api.Instr{small, Load(b, a)}
	case 3:
		return []api.Instr{small, Store(a, b)}
	case 4:
		return []api.Instr{Out(a)}
	case 5:
		return []api.Instr{k.calling()}
	case 6:
		return []api.Instr{Op(api.OpLt+k.pick(2), truth, a, b)}
	case 7:
		from := k.reg(api.TypeBool)
		return []api.Instr{Op(api.OpNot, truth, from), Op(api.OpCopy, from, truth)}
	case 8:
		return []api.Instr{small, Op(api.OpDiv, c, b, a), Op(api.OpCopy, b, c)}[k.pick(8)/7:]
	case 9:
		if k.pick(4) == 0 {
			return []api.Instr{Load(c, b), Op(api.OpDiv, b, c, a)}[k.pick(2):]
		}
	}
	return []api.Instr{Op(api.OpAdd+k.pick(8), c, a, b)}
}
