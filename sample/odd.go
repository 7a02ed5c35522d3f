package sample

import (
	"math"

	"fettle/api"
)

// Odd is a function of any blocks, seldom a proper one: ends of any Kind, Tos
// that are there twice, are block 0 or no block's number at all, phis of any
// number of Args, registers and functions that aren't there.
func Odd(pick Pick) api.Func {
	f := api.Func{Params: oddNumber(pick, 4), Result: oddNumber(pick, 3), Regs: oddNumbers(pick, 6, 3)}
	many := pick(14)
	most := 1 + pick(3) // where all have few Tos, more aren't reached
	for range many {
		f.Blocks = append(f.Blocks, oddBlock(pick, many, most))
	}
	return f
}

// oddBlock is a block of one of these functions, of Tos that are most often
// one of many blocks.
func oddBlock(pick Pick, many, most int) api.Block {
	b := api.Block{Term: api.Term{Kind: pick(5), Arg: oddNumber(pick, 5), To: oddNumbers(pick, 1+most, many)}}
	for range pick(4) {
		b.Phis = append(b.Phis, api.Phi{Dst: oddNumber(pick, 6), Args: oddNumbers(pick, 6, 6)})
	}
	for range pick(4) {
		b.Ins = append(b.Ins, api.Instr{Op: pick(20), Dst: oddNumber(pick, 6), Args: oddNumbers(pick, 4, 6),
			Imm: int64(oddNumber(pick, 9)), Fun: oddNumber(pick, 3)})
	}
	return b
}

// oddNumbers are fewer than so many numbers, most often below n.
func oddNumbers(pick Pick, many, n int) []int {
	var l []int
	for range pick(many) {
		l = append(l, oddNumber(pick, n))
	}
	return l
}

// oddNumber is one of 0 to n - 1, or, now and then, one that isn't.
func oddNumber(pick Pick, n int) int {
	if pick(12) > 0 {
		return pick(n)
	}
	switch pick(6) {
	case 0:
		return -1
	case 1:
		return n
	case 2:
		return n + 1
	case 3:
		return math.MinInt
	case 4:
		return math.MaxInt
	}
	return -n
}
