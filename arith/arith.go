// Package arith is layer 1: see shared/doc/01-arith.md.
package arith

import "fettle/api"

// Args is how many arguments an operation has: P1.1.
func Args(op int) (int, bool) {
	switch op {
	case api.OpCopy, api.OpNot:
		return 1, true
	case api.OpAdd, api.OpSub, api.OpMul,
		api.OpAnd, api.OpOr, api.OpXor,
		api.OpShl, api.OpShr, api.OpDiv,
		api.OpLt, api.OpEq:
		return 2, true
	}
	return 0, false
}

// Eval is what it makes of them: P1.2.
func Eval(op int, args []int64) (int64, error) {
	n, known := Args(op)
	if !known || len(args) != n {
		return 0, api.ErrArg
	}
	if n == 1 {
		return ofOne(op, args[0]), nil
	}
	if Traps(op) && args[1] == 0 {
		return 0, api.ErrState
	}
	return ofTwo(op, args[0], args[1]), nil
}

// Traps tells whether it may trap: P1.1.
func Traps(op int) bool { return op == api.OpDiv }

// Same tells whether its arguments may change places: P1.1.
func Same(op int) bool {
	switch op {
	case api.OpAdd, api.OpMul, api.OpAnd, api.OpOr, api.OpXor, api.OpEq:
		return true
	}
	return false
}

// ofOne is what an operation of one argument makes of it.
func ofOne(op int, a int64) int64 {
	if op == api.OpNot {
		return 1 - a
	}
	return a
}

// ofTwo is what an operation of two arguments makes of them. It leaves to
// its caller that a divisor isn't 0; the quotient of -2^63 and -1 needs no
// care, since Go's own wraps round to -2^63.
func ofTwo(op int, a, b int64) int64 {
	switch op {
	case api.OpAdd:
		return a + b
	case api.OpSub:
		return a - b
	case api.OpMul:
		return a * b
	case api.OpAnd:
		return a & b
	case api.OpOr:
		return a | b
	case api.OpXor:
		return a ^ b
	case api.OpShl:
		return a << places(b)
	case api.OpShr:
		return a >> places(b)
	case api.OpDiv:
		return a / b
	case api.OpLt:
		return asNumber(a < b)
	}
	return asNumber(a == b)
}

// places is by how many bits to shift; without a sign, so that no shift can
// be by less than 0, at which Go panics.
func places(b int64) uint64 { return uint64(b) & 63 }

// asNumber is a bool as the number that stands for it.
func asNumber(is bool) int64 {
	if is {
		return 1
	}
	return 0
}
