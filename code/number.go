package code

// mark is what a module's bytes begin with.
const mark = "ftl1"

// Of a number: the bits of it that a byte has, the bit of a byte that tells
// that another one follows, and in how many bytes the greatest is written.
const (
	bitsEach  = 7
	follows   = 1 << bitsEach
	mostBytes = 10
)

// withNumber is bytes with a number behind them.
func withNumber(b []byte, n uint64) []byte {
	for n >= follows {
		b = append(b, byte(n)|follows)
		n >>= bitsEach
	}
	return append(b, byte(n))
}

// leading is the number that bytes begin with, and in how many of them it is
// written: in none, if they begin with no number that is written as it must.
func leading(b []byte) (uint64, int) {
	n := uint64(0)
	for i, c := range b[:min(len(b), mostBytes)] {
		n |= uint64(c&^follows) << (bitsEach * i)
		if c >= follows {
			continue
		}
		if isTooLong(c, i) || isTooGreat(c, i) {
			return 0, 0
		}
		return n, i + 1
	}
	return 0, 0
}

// isTooLong tells whether a number whose last byte is c, behind so many
// others, could have been written without it.
func isTooLong(c byte, others int) bool { return c == 0 && others > 0 }

// isTooGreat tells whether such a number is above 2^64 - 1: 64 bits leave
// only one for the tenth byte.
func isTooGreat(c byte, others int) bool { return others == mostBytes-1 && c > 1 }

// unsigned is the number that is written for one with a sign: 2 n, or for n
// below 0 all bits of that turned over, which is -2 n - 1, also where -2 n
// alone would be above 64 bits.
func unsigned(n int64) uint64 { return uint64(n)<<1 ^ uint64(n>>63) }

// signed is the number with a sign for which n is written.
func signed(n uint64) int64 {
	if n%2 == 0 {
		return int64(n / 2)
	}
	return -int64(n/2) - 1
}
