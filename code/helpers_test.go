package code_test

import (
	"encoding/binary"
	"fmt"
	"slices"
	"testing"

	"fettle/api"
	"fettle/code"
	"fettle/sample"
)

// What modules are built of here.
var (
	module, quiet, sum     = sample.Module, sample.Quiet, sample.Sum
	jump, branch, giveBack = sample.Jump, sample.Branch, sample.GiveBack
	constant, ints         = sample.Constant, sample.Ints
)

// piece is one number of a module's bytes. Where it is how many a list has,
// limit is how many it may have, else 0.
type piece struct {
	value  uint64
	signed bool
	limit  int
}

// pieces are all numbers of a module, proper or not, in the chapter's order.
// They are written out here once more, so that the tests don't ask the
// package what to expect of it.
func pieces(m api.Module) []piece {
	var l []piece
	many := func(n, limit int) { l = append(l, piece{value: uint64(n), limit: limit}) }
	plain := func(list ...int) {
		for _, n := range list {
			l = append(l, piece{value: uint64(n)})
		}
	}
	list := func(of []int) {
		many(len(of), api.MaxRegs)
		plain(of...)
	}
	many(len(m.Funcs), api.MaxFuncs)
	for _, f := range m.Funcs {
		plain(f.Params, f.Result)
		list(f.Regs)
		many(len(f.Blocks), api.MaxBlocks)
		for _, b := range f.Blocks {
			many(len(b.Phis), api.MaxIns)
			for _, p := range b.Phis {
				plain(p.Dst)
				list(p.Args)
			}
			many(len(b.Ins), api.MaxIns)
			for _, in := range b.Ins {
				plain(in.Op, in.Dst+1)
				list(in.Args)
				imm := uint64(2 * in.Imm)
				if in.Imm < 0 {
					imm = uint64(-2*in.Imm - 1)
				}
				l = append(l, piece{value: imm, signed: true})
				plain(in.Fun)
			}
			plain(b.Term.Kind, b.Term.Arg+1)
			list(b.Term.To)
		}
	}
	return l
}

// spelt is the first so many of these numbers as bytes.
func spelt(l []piece) []byte {
	b := []byte("ftl1")
	for _, p := range l {
		b = binary.AppendUvarint(b, p.value)
	}
	return b
}

// bytesOf is a module's bytes, proper or not.
func bytesOf(m api.Module) []byte { return spelt(pieces(m)) }

// instead is a module's bytes with others in place of its i-th number, and
// the place of these.
func instead(l []piece, i int, b ...byte) ([]byte, int) {
	front, behind := spelt(l[:i]), spelt(l[i+1:])
	return slices.Concat(front, b, behind[4:]), len(front)
}

// same tells whether two modules are: lists of no elements may be nil.
func same(a, b api.Module) bool { return fmt.Sprint(a) == fmt.Sprint(b) }

// decoded is what Decode answers where it must answer a module.
func decoded(t *testing.T, what string, b []byte) api.Module {
	t.Helper()
	m, err := code.Decode(b)
	if err != nil {
		t.Fatalf("%s: Decode: %v", what, err)
	}
	return m
}

// encoded is what Encode answers where it must answer bytes.
func encoded(t *testing.T, what string, m api.Module) []byte {
	t.Helper()
	b, err := code.Encode(m)
	if err != nil {
		t.Fatalf("%s: Encode: %v", what, err)
	}
	return b
}

// isSpot tells whether an error is that Code, at that place.
func isSpot(err error, at int, want api.Code) bool {
	s, ok := err.(*api.Spot)
	return ok && s != nil && s.At == at && s.Err == error(want)
}

// isNothing tells whether a module is the zero value.
func isNothing(m api.Module) bool { return len(m.Funcs) == 0 }

// refused holds that Decode answers that error at that place, and nothing
// else (R3).
func refused(t *testing.T, what string, b []byte, at int, want api.Code) {
	t.Helper()
	m, err := code.Decode(b)
	if !isSpot(err, at, want) {
		t.Errorf("%s: Decode: %v, want %v at %d", what, err, want, at)
	}
	if !isNothing(m) {
		t.Errorf("%s: a module beside %v", what, err)
	}
}

// round counts up to its parameter by a phi, and puts out each number.
func round() api.Func {
	return api.Func{Params: 1, Result: api.TypeInt, Regs: []int{1, 1, 1, 1, 2, 1}, Blocks: []api.Block{
		{Ins: []api.Instr{constant(1, 0), constant(5, 1)}, Term: jump(1)},
		{
			Phis: []api.Phi{{Dst: 2, Args: []int{1, 3}}, {Dst: 3, Args: []int{5, 5}}},
			Ins:  []api.Instr{{Op: api.OpLt, Dst: 4, Args: []int{2, 0}}},
			Term: branch(4, 2, 3),
		},
		{Ins: []api.Instr{
			{Op: api.OpAdd, Dst: 3, Args: []int{2, 5}},
			{Op: api.OpOut, Dst: -1, Args: []int{3}},
		}, Term: jump(1)},
		{Term: giveBack(2)},
	}}
}

// all is a module of all operations, kinds of ends and types.
func all() api.Module {
	f := api.Func{Params: 2, Result: api.TypeBool, Regs: []int{1, 2, 1, 2}, Blocks: []api.Block{
		{Ins: []api.Instr{constant(2, -3), constant(3, 1)}, Term: branch(1, 1, 2)},
		{Ins: []api.Instr{
			{Op: api.OpCopy, Dst: 2, Args: []int{0}},
			{Op: api.OpEq, Dst: 3, Args: []int{2, 0}},
			{Op: api.OpLt, Dst: 3, Args: []int{2, 0}},
			{Op: api.OpNot, Dst: 3, Args: []int{1}},
			{Op: api.OpLoad, Dst: 2, Args: []int{0}},
			{Op: api.OpStore, Dst: -1, Args: []int{0, 2}},
			{Op: api.OpCall, Dst: 3, Args: []int{2, 3}, Fun: 1},
			{Op: api.OpCall, Dst: -1, Fun: 2},
			{Op: api.OpOut, Dst: -1, Args: []int{2}},
		}, Term: jump(3)},
		{Term: giveBack(1)},
		{Phis: []api.Phi{{Dst: 1, Args: []int{3}}}, Term: giveBack(3)},
	}}
	for op := api.OpAdd; op <= api.OpDiv; op++ {
		f.Blocks[3].Ins = append(f.Blocks[3].Ins, api.Instr{Op: op, Dst: 2, Args: []int{2, 0}})
	}
	return module(round(), f, quiet(0))
}

// fullest is a module of as many functions, registers, parameters, blocks
// and instructions as there may be.
func fullest() api.Module {
	f := api.Func{Params: api.MaxParams, Result: api.TypeInt, Regs: ints(api.MaxRegs)}
	for i := range api.MaxBlocks {
		f.Blocks = append(f.Blocks, api.Block{Ins: []api.Instr{
			constant(255-i, int64(i)<<56),
			{Op: api.OpCall, Dst: 126 + i, Args: []int{0, 1, 126, 127, 128, 129, 254, 255}, Fun: i / 2},
			{Op: api.OpMul, Dst: i, Args: []int{126 + i, 255 - i}},
		}, Term: jump(i + 1)})
	}
	f.Blocks[api.MaxBlocks-1].Term = giveBack(255)
	return module(slices.Repeat([]api.Func{f}, api.MaxFuncs)...)
}

// wide is a module of functions with as many phis, as many instructions, and
// a phi of as many Args as there may be.
func wide() api.Module {
	phis, ins, args := quiet(2), quiet(2), quiet(3)
	for i := range api.MaxIns - 1 {
		phis.Blocks[0].Phis = append(phis.Blocks[0].Phis, api.Phi{Dst: i % 2})
		ins.Blocks[0].Ins = append(ins.Blocks[0].Ins, constant(i%2, int64(-i)))
	}
	args.Regs[2] = api.TypeBool
	last := api.MaxBlocks - 1
	args.Blocks = nil
	for i := range last {
		args.Blocks = append(args.Blocks, api.Block{Term: branch(2, last, i+1)})
	}
	args.Blocks[last-1].Term = jump(last)
	args.Blocks = append(args.Blocks, api.Block{
		Phis: []api.Phi{{Dst: 1, Args: make([]int, last)}}, Term: giveBack(-1),
	})
	return module(phis, ins, args)
}

// named is a proper module.
type named struct {
	name string
	m    api.Module
}

// proper are modules of all kinds.
func proper() []named {
	return []named{
		{"nothing", module()},
		{"quiet", module(quiet(0))},
		{"sum", module(sum())},
		{"round", module(quiet(3), round())},
		{"all", all()},
		{"fullest", fullest()},
		{"wide", wide()},
	}
}
