package arith

import (
	"errors"
	"math"
	"math/big"
	"slices"
	"testing"

	"fettle/api"
)

// row is what the chapter tells of an operation.
type row struct {
	name        string
	op, args    int
	same, traps bool
}

// table is the chapter's, written out once more, so that the tests don't
// ask the package what to expect of it.
var table = []row{
	{"OpCopy", api.OpCopy, 1, false, false},
	{"OpAdd", api.OpAdd, 2, true, false},
	{"OpSub", api.OpSub, 2, false, false},
	{"OpMul", api.OpMul, 2, true, false},
	{"OpAnd", api.OpAnd, 2, true, false},
	{"OpOr", api.OpOr, 2, true, false},
	{"OpXor", api.OpXor, 2, true, false},
	{"OpShl", api.OpShl, 2, false, false},
	{"OpShr", api.OpShr, 2, false, false},
	{"OpDiv", api.OpDiv, 2, false, true},
	{"OpLt", api.OpLt, 2, false, false},
	{"OpEq", api.OpEq, 2, true, false},
	{"OpNot", api.OpNot, 1, false, false},
}

// strangers are operations that aren't the table's.
var strangers = []int{
	api.OpConst, api.OpLoad, api.OpStore, api.OpCall, api.OpOut,
	0, -1, -2, -3, -11, 19, 20, 64, 67, 256, 258, 1 << 32, 1<<32 + api.OpAdd,
	math.MinInt, math.MinInt + api.OpAdd, math.MaxInt,
}

// numbers are those near the edges, and some from everywhere.
func numbers() []int64 {
	l := []int64{
		0, 1, 2, 3, 5, 6, 7, 8, 10, 31, 32, 33, 62, 63, 64, 65, 66, 100, 127, 128, 129,
		1 << 31, 1<<31 - 1, 1 << 32, 1<<32 + 1, 3037000499, 3037000500, 1 << 62, 1<<62 - 1,
		math.MaxInt64, math.MaxInt64 - 1, math.MinInt64, math.MinInt64 + 1,
	}
	for _, v := range slices.Clone(l) {
		l = append(l, -v)
	}
	x := uint64(1)
	for range 24 {
		x = x*6364136223846793005 + 1442695040888963407
		l = append(l, int64(x), int64(x)>>40)
	}
	slices.Sort(l)
	return slices.Compact(l)
}

// value is what Eval answers where it must answer a number.
func value(t *testing.T, op int, args ...int64) int64 {
	t.Helper()
	v, err := Eval(op, args)
	if err != nil {
		t.Fatalf("Eval(%d, %v): %v", op, args, err)
	}
	return v
}

// is holds that Eval answers so.
func is(t *testing.T, want int64, op int, args ...int64) {
	t.Helper()
	if v, err := Eval(op, args); v != want || err != nil {
		t.Errorf("Eval(%d, %v) = %d, %v; want %d", op, args, v, err, want)
	}
}

// fails holds that Eval answers that error itself, and 0 (R3).
func fails(t *testing.T, want api.Code, op int, args []int64) {
	t.Helper()
	if v, err := Eval(op, args); v != 0 || err != error(want) || !errors.Is(err, want) {
		t.Errorf("Eval(%d, %v) = %d, %v; want 0, %v", op, args, v, err, want)
	}
}

// P1.1: what the table tells of its operations.
func TestTable(t *testing.T) {
	for _, x := range table {
		if n, known := Args(x.op); n != x.args || !known {
			t.Errorf("Args(%s) = %d, %t", x.name, n, known)
		}
		if Traps(x.op) != x.traps {
			t.Errorf("Traps(%s) = %t", x.name, Traps(x.op))
		}
		if Same(x.op) != x.same {
			t.Errorf("Same(%s) = %t", x.name, Same(x.op))
		}
	}
}

// P1.1: what isn't the table's has no arguments, doesn't trap, and isn't Same.
func TestStrangers(t *testing.T) {
	for _, op := range strangers {
		if n, known := Args(op); n != 0 || known {
			t.Errorf("Args(%d) = %d, %t", op, n, known)
		}
		if Traps(op) || Same(op) {
			t.Errorf("of %d Traps is %t, Same is %t", op, Traps(op), Same(op))
		}
	}
}

// P1.2: all operations of ordinary numbers.
func TestEvalOrdinary(t *testing.T) {
	is(t, 7, api.OpCopy, 7)
	is(t, -7, api.OpCopy, -7)
	is(t, 5, api.OpAdd, 2, 3)
	is(t, -1, api.OpAdd, 2, -3)
	is(t, 4, api.OpSub, 7, 3)
	is(t, -4, api.OpSub, 3, 7)
	is(t, 42, api.OpMul, 6, 7)
	is(t, -42, api.OpMul, 6, -7)
	is(t, 8, api.OpAnd, 12, 10)
	is(t, 14, api.OpOr, 12, 10)
	is(t, 6, api.OpXor, 12, 10)
	is(t, 12, api.OpAnd, -4, 13)
	is(t, -3, api.OpOr, -4, 1)
	is(t, -4, api.OpXor, -1, 3)
	is(t, 40, api.OpShl, 5, 3)
	is(t, -40, api.OpShl, -5, 3)
	is(t, 5, api.OpShr, 40, 3)
	is(t, -5, api.OpShr, -40, 3)
	is(t, -1, api.OpShr, -1, 1)
	is(t, 3, api.OpDiv, 7, 2)
	is(t, -3, api.OpDiv, -7, 2)
	is(t, -3, api.OpDiv, 7, -2)
	is(t, 3, api.OpDiv, -7, -2)
	is(t, 0, api.OpDiv, -1, 2)
	is(t, 1, api.OpLt, 2, 3)
	is(t, 0, api.OpLt, 3, 2)
	is(t, 0, api.OpLt, 3, 3)
	is(t, 1, api.OpLt, -1, 0)
	is(t, 1, api.OpEq, 3, 3)
	is(t, 0, api.OpEq, 3, 4)
	is(t, 0, api.OpEq, 3, -3)
	is(t, 1, api.OpNot, 0)
	is(t, 0, api.OpNot, 1)
}

// P1.2: the edges that the chapter names.
func TestEvalEdges(t *testing.T) {
	const low, high = math.MinInt64, math.MaxInt64
	is(t, low, api.OpAdd, high, 1)
	is(t, high, api.OpAdd, low, -1)
	is(t, 0, api.OpAdd, low, low)
	is(t, high, api.OpSub, low, 1)
	is(t, low, api.OpSub, high, -1)
	is(t, low, api.OpSub, 0, low)
	is(t, low, api.OpMul, low, -1)
	is(t, 1, api.OpMul, high, high)
	is(t, 0, api.OpMul, 1<<32, 1<<32)
	is(t, low, api.OpDiv, low, -1)
	is(t, 1, api.OpDiv, low, low)
	is(t, 0, api.OpDiv, high, low)
	is(t, -1, api.OpDiv, low, high)
	is(t, 0, api.OpDiv, 0, -1)
	is(t, low, api.OpShl, 1, 63)
	is(t, low, api.OpShl, 3, 63)
	is(t, 1, api.OpShl, 1, 64)
	is(t, 2, api.OpShl, 1, 65)
	is(t, low, api.OpShl, 1, -1)
	is(t, 1, api.OpShl, 1, low)
	is(t, low, api.OpShl, 1, high)
	is(t, -1, api.OpShr, low, 63)
	is(t, 0, api.OpShr, high, 63)
	is(t, low, api.OpShr, low, 64)
	is(t, low>>1, api.OpShr, low, 65)
	is(t, -1, api.OpShr, low, -1)
	is(t, low, api.OpShr, low, low)
	is(t, -1, api.OpShr, low, high)
	is(t, 1, api.OpLt, low, high)
	is(t, 0, api.OpLt, high, low)
	is(t, 0, api.OpEq, low, high)
	is(t, -1, api.OpNot, 2)
	is(t, 2, api.OpNot, -1)
	is(t, -high+1, api.OpNot, high)
	is(t, low+1, api.OpNot, low)
}

// P1.2: a divisor 0 traps, whatever is divided.
func TestEvalTraps(t *testing.T) {
	for _, a := range numbers() {
		fails(t, api.ErrState, api.OpDiv, []int64{a, 0})
		if a != 0 {
			value(t, api.OpDiv, 0, a)
		}
	}
}

// P1.2: wrong operations, and too few and too many arguments.
func TestEvalWrong(t *testing.T) {
	for n := range 5 {
		for _, v := range []int64{0, 1, math.MinInt64} {
			args := slices.Repeat([]int64{v}, n)
			for _, op := range strangers {
				fails(t, api.ErrArg, op, args)
			}
			for _, x := range table {
				if n != x.args {
					fails(t, api.ErrArg, x.op, args)
				}
			}
		}
	}
	for _, x := range table {
		fails(t, api.ErrArg, x.op, nil)
	}
	fails(t, api.ErrArg, api.OpAdd, make([]int64, 1<<16))
}

// reckoned is what an operation comes to, reckoned by numbers of any size.
func reckoned(op int, x, y int64) int64 {
	a, b, z := big.NewInt(x), big.NewInt(y), new(big.Int)
	n := uint(new(big.Int).And(b, big.NewInt(63)).Uint64())
	switch op {
	case api.OpCopy:
		z.Set(a)
	case api.OpAdd:
		z.Add(a, b)
	case api.OpSub:
		z.Sub(a, b)
	case api.OpMul:
		z.Mul(a, b)
	case api.OpAnd:
		z.And(a, b)
	case api.OpOr:
		z.Or(a, b)
	case api.OpXor:
		z.Xor(a, b)
	case api.OpShl:
		z.Lsh(a, n)
	case api.OpShr:
		z.Rsh(a, n)
	case api.OpDiv:
		z.Quo(a, b)
	case api.OpLt:
		if a.Cmp(b) < 0 {
			z.SetInt64(1)
		}
	case api.OpEq:
		if a.Cmp(b) == 0 {
			z.SetInt64(1)
		}
	case api.OpNot:
		z.Sub(big.NewInt(1), a)
	}
	low := new(big.Int).SetUint64(math.MaxUint64)
	return int64(low.And(z, low).Uint64())
}

// P1.2: all operations, held against numbers of any size.
func TestEvalReckoned(t *testing.T) {
	for _, x := range table {
		for _, a := range numbers() {
			for _, b := range numbers() {
				if x.traps && b == 0 {
					continue
				}
				is(t, reckoned(x.op, a, b), x.op, []int64{a, b}[:x.args]...)
			}
		}
	}
}

// P1.3, R2: arguments stay as they are, also what lies behind them, and
// what was handed in earlier has no say in a later answer.
func TestEvalKeepsNothing(t *testing.T) {
	for _, x := range table {
		whole := []int64{-9, 4, 77, 78}
		args := whole[:x.args]
		before := value(t, x.op, args...)
		if _, err := Eval(x.op, args); err != nil || !slices.Equal(whole, []int64{-9, 4, 77, 78}) {
			t.Errorf("%s made %v of its arguments, %v", x.name, whole, err)
		}
		clear(whole)
		if after := value(t, x.op, []int64{-9, 4}[:x.args]...); after != before {
			t.Errorf("%s: %d, and then %d", x.name, before, after)
		}
		Eval(x.op, nil)
		Eval(api.OpDiv, []int64{1, 0})
		if after := value(t, x.op, []int64{-9, 4}[:x.args]...); after != before {
			t.Errorf("%s: %d, and behind errors %d", x.name, before, after)
		}
	}
}

// P1.4: what is Same is it, and nothing else of two arguments is.
func TestSameIsIt(t *testing.T) {
	for _, x := range table {
		differs := false
		for _, a := range numbers() {
			for _, b := range numbers() {
				if x.args != 2 || x.traps && (a == 0 || b == 0) {
					continue
				}
				differs = differs || value(t, x.op, a, b) != value(t, x.op, b, a)
			}
		}
		if x.args == 2 && differs == Same(x.op) {
			t.Errorf("%s differs: %t, Same: %t", x.name, differs, Same(x.op))
		}
	}
}

// P1.4: it doesn't matter which two come first; products of sums are sums
// of products.
func TestWhichComesFirst(t *testing.T) {
	l := []int64{
		0, 1, -1, 2, 3, -7, 63, 64, 1 << 32, 3037000500, 0x5555555555555555,
		math.MaxInt64, math.MinInt64, math.MinInt64 + 1,
	}
	for _, a := range l {
		for _, b := range l {
			for _, c := range l {
				for _, op := range []int{api.OpAdd, api.OpMul, api.OpAnd, api.OpOr, api.OpXor} {
					is(t, value(t, op, a, value(t, op, b, c)), op, value(t, op, a, b), c)
				}
				sum := value(t, api.OpAdd, value(t, api.OpMul, a, b), value(t, api.OpMul, a, c))
				is(t, sum, api.OpMul, a, value(t, api.OpAdd, b, c))
			}
		}
	}
}

// P1.4: one is below the other, or they are the same; a difference undoes a
// sum; a number shifted by 64 more is shifted likewise.
func TestPairs(t *testing.T) {
	for _, a := range numbers() {
		for _, b := range numbers() {
			if value(t, api.OpLt, a, b)+value(t, api.OpLt, b, a)+value(t, api.OpEq, a, b) != 1 {
				t.Errorf("%d and %d aren't just one of below, above and the same", a, b)
			}
			is(t, a, api.OpSub, value(t, api.OpAdd, a, b), b)
			for _, op := range []int{api.OpShl, api.OpShr} {
				is(t, value(t, op, a, b), op, a, b+64)
			}
		}
	}
}

// P1.4: a quotient times b and a rest that is nearer to 0 than b make a.
func TestQuotientAndRest(t *testing.T) {
	for _, a := range numbers() {
		for _, b := range numbers() {
			if b == 0 {
				continue
			}
			product := value(t, api.OpMul, value(t, api.OpDiv, a, b), b)
			rest := value(t, api.OpSub, a, product)
			if new(big.Int).Abs(big.NewInt(rest)).Cmp(new(big.Int).Abs(big.NewInt(b))) >= 0 {
				t.Errorf("%d by %d leaves %d", a, b, rest)
			}
			is(t, a, api.OpAdd, product, rest)
		}
	}
}

// P1: no call panics, at all operations near the table's and far from them.
func TestNothingPanics(t *testing.T) {
	ops := slices.Clone(strangers)
	for op := -300; op <= 300; op++ {
		ops = append(ops, op)
	}
	for _, op := range ops {
		listed := slices.ContainsFunc(table, func(x row) bool { return x.op == op })
		if n, known := Args(op); known != listed {
			t.Errorf("Args(%d) = %d, %t", op, n, known)
		}
		Traps(op)
		Same(op)
		for k := range 4 {
			for _, v := range []int64{0, -1, 1, 63, 64, math.MaxInt64, math.MinInt64} {
				Eval(op, slices.Repeat([]int64{v}, k))
			}
		}
	}
}
