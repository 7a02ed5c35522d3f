package check

import (
	"fettle/api"
	"fettle/arith"
)

// asked is what an operation asks for: how many arguments, their types, and
// its Dst's, TypeNone where it has none. How many there are stands by itself,
// since a function that is called may have parameters that are no registers,
// and so are of no type.
type asked struct {
	many int
	args []int
	dst  int
}

// asks is what an operation asks for whose arguments all have a type.
func asks(dst int, args ...int) asked {
	return asked{many: len(args), args: args, dst: dst}
}

// ofInstr is what the rules 5 and 6 say of an instruction.
func ofInstr(m api.Module, f api.Func, in api.Instr) error {
	want, err := askedOf(m, f, in)
	if err != nil {
		return err
	}
	if len(in.Args) != want.many {
		return api.ErrShape
	}
	if !areAt(in.Args, len(f.Regs)) {
		return api.ErrNone
	}
	if want.dst != api.TypeNone && !isAt(in.Dst, len(f.Regs)) {
		return api.ErrNone
	}
	if !fits(f, in, want) {
		return api.ErrType
	}
	return nil
}

// askedOf is what an instruction's operation asks for.
func askedOf(m api.Module, f api.Func, in api.Instr) (asked, error) {
	switch in.Op {
	case api.OpConst:
		return asks(constType(f, in)), nil
	case api.OpCopy:
		t := copyType(f, in)
		return asks(t, t), nil
	case api.OpLt, api.OpEq:
		return asks(api.TypeBool, api.TypeInt, api.TypeInt), nil
	case api.OpNot:
		return asks(api.TypeBool, api.TypeBool), nil
	case api.OpLoad:
		return asks(api.TypeInt, api.TypeInt), nil
	case api.OpStore:
		return asks(api.TypeNone, api.TypeInt, api.TypeInt), nil
	case api.OpOut:
		return asks(api.TypeNone, api.TypeInt), nil
	case api.OpCall:
		return askedOfCall(m, in.Fun)
	}
	if n, known := arith.Args(in.Op); known {
		return asks(api.TypeInt, ints(n)...), nil
	}
	return asked{}, api.ErrShape
}

// askedOfCall is what a call of a function asks for. That function needn't
// be proper: of its parameters only those have a type that are registers.
func askedOfCall(m api.Module, fun int) (asked, error) {
	if !isAt(fun, len(m.Funcs)) {
		return asked{}, api.ErrNone
	}
	g := m.Funcs[fun]
	typed := max(0, min(g.Params, len(g.Regs)))
	return asked{many: g.Params, args: g.Regs[:typed], dst: g.Result}, nil
}

// constType is the type that a constant's Dst has to be of: a bool only
// where it is one, and Imm too.
func constType(f api.Func, in api.Instr) int {
	if isAt(in.Dst, len(f.Regs)) && f.Regs[in.Dst] == api.TypeBool && (in.Imm == 0 || in.Imm == 1) {
		return api.TypeBool
	}
	return api.TypeInt
}

// copyType is the type of what is copied. Where that isn't there, any type
// does, since the instruction is refused for that.
func copyType(f api.Func, in api.Instr) int {
	if len(in.Args) > 0 && isAt(in.Args[0], len(f.Regs)) {
		return f.Regs[in.Args[0]]
	}
	return api.TypeInt
}

// ints are so many times TypeInt.
func ints(n int) []int {
	list := make([]int, n)
	for i := range list {
		list[i] = api.TypeInt
	}
	return list
}

// fits tells whether an instruction whose registers are there, and that has
// as many Args as it must, is of the types asked for, with nothing that its
// operation has no use for. No Arg fits a parameter that is of no type.
func fits(f api.Func, in api.Instr, want asked) bool {
	if len(want.args) != want.many {
		return false
	}
	for i, a := range in.Args {
		if f.Regs[a] != want.args[i] {
			return false
		}
	}
	if want.dst == api.TypeNone {
		if in.Dst != -1 {
			return false
		}
	} else if f.Regs[in.Dst] != want.dst {
		return false
	}
	if in.Imm != 0 && in.Op != api.OpConst {
		return false
	}
	return in.Fun == 0 || in.Op == api.OpCall
}
