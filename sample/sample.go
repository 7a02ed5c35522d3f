// Package sample makes modules for the tests of all packages: piece by piece,
// and any ones by the numbers that are picked; and it holds what many of them
// hold, of the calls that they hand to it. No layer stands on it, and it stands
// on api alone, so that a test may ask it about any layer.
package sample

import (
	"slices"

	"fettle/api"
)

// Module is one of these functions.
func Module(l ...api.Func) api.Module { return api.Module{Funcs: l} }

// With is a module with another function in the f-th one's place.
func With(m api.Module, f int, g api.Func) api.Module {
	n := Module(slices.Clone(m.Funcs)...)
	n.Funcs[f] = g
	return n
}

// Function is one of these blocks, over registers of these types.
func Function(params, result int, regs []int, blocks ...api.Block) api.Func {
	return api.Func{Params: params, Result: result, Regs: regs, Blocks: blocks}
}

// Block is one without phis.
func Block(end api.Term, ins ...api.Instr) api.Block { return api.Block{Ins: ins, Term: end} }

// WithPhis is a block with these phis.
func WithPhis(b api.Block, phis ...api.Phi) api.Block {
	b.Phis = phis
	return b
}

// Phi is one.
func Phi(dst int, args ...int) api.Phi { return api.Phi{Dst: dst, Args: args} }

// Ints are so many registers, all of them ints.
func Ints(n int) []int { return slices.Repeat([]int{api.TypeInt}, n) }

// Jump is a jump's end: of a proper one there is one To.
func Jump(to ...int) api.Term { return api.Term{Kind: api.TermJump, Arg: -1, To: to} }

// Branch is a branch's end: of a proper one there are two Tos.
func Branch(arg int, to ...int) api.Term {
	return api.Term{Kind: api.TermBranch, Arg: arg, To: to}
}

// GiveBack is an end that returns a register; none, if that is -1.
func GiveBack(arg int) api.Term { return api.Term{Kind: api.TermReturn, Arg: arg} }

// Constant is OpConst.
func Constant(dst int, imm int64) api.Instr {
	return api.Instr{Op: api.OpConst, Dst: dst, Imm: imm}
}

// Op is an instruction of any operation but OpConst and OpCall.
func Op(op, dst int, args ...int) api.Instr { return api.Instr{Op: op, Dst: dst, Args: args} }

// Out is OpOut.
func Out(reg int) api.Instr { return Op(api.OpOut, -1, reg) }

// Load is OpLoad.
func Load(dst, at int) api.Instr { return Op(api.OpLoad, dst, at) }

// Store is OpStore.
func Store(at, what int) api.Instr { return Op(api.OpStore, -1, at, what) }

// Call is OpCall.
func Call(fun, dst int, args ...int) api.Instr {
	return api.Instr{Op: api.OpCall, Dst: dst, Args: args, Fun: fun}
}

// Straight is a function of one block over so many ints, that returns one.
func Straight(params, regs, back int, ins ...api.Instr) api.Func {
	return Function(params, api.TypeInt, Ints(regs), Block(GiveBack(back), ins...))
}

// Quiet is a function that does nothing, of so many registers.
func Quiet(regs int) api.Func {
	return Function(0, api.TypeNone, Ints(regs), Block(GiveBack(-1)))
}

// Sum adds up the numbers below its parameter.
func Sum() api.Func {
	return Function(1, api.TypeInt, []int{1, 1, 1, 1, 2},
		Block(Jump(1)),
		Block(Branch(4, 2, 3), Op(api.OpLt, 4, 1, 0)),
		Block(Jump(1), Constant(3, 1), Op(api.OpAdd, 2, 2, 1), Op(api.OpAdd, 1, 1, 3)),
		Block(GiveBack(2)),
	)
}

// Endless goes round without an end, in a step each time.
func Endless() api.Func {
	return Function(0, api.TypeNone, nil, Block(Jump(1)), Block(Jump(1)))
}

// Ways is a function without registers whose blocks have these Tos: one makes
// a jump, none a return, others a branch. (A branch has no register to ask.)
func Ways(tos ...[]int) api.Func {
	var f api.Func
	for _, to := range tos {
		end := api.Term{Kind: api.TermBranch, Arg: -1, To: slices.Clone(to)}
		switch len(to) {
		case 0:
			end.Kind = api.TermReturn
		case 1:
			end.Kind = api.TermJump
		}
		f.Blocks = append(f.Blocks, Block(end))
	}
	return f
}

// Copy is a function that shares nothing with f.
func Copy(f api.Func) api.Func {
	g := f
	g.Regs, g.Blocks = slices.Clone(f.Regs), nil
	for _, b := range f.Blocks {
		c := api.Block{Ins: slices.Clone(b.Ins), Phis: slices.Clone(b.Phis), Term: b.Term}
		for i := range c.Ins {
			c.Ins[i].Args = slices.Clone(c.Ins[i].Args)
		}
		for i := range c.Phis {
			c.Phis[i].Args = slices.Clone(c.Phis[i].Args)
		}
		c.Term.To = slices.Clone(c.Term.To)
		g.Blocks = append(g.Blocks, c)
	}
	return g
}

// CopyModule is a module that shares nothing with m.
func CopyModule(m api.Module) api.Module {
	var c api.Module
	for _, f := range m.Funcs {
		c.Funcs = append(c.Funcs, Copy(f))
	}
	return c
}
