package code_test

import (
	"bytes"
	"encoding/binary"
	"fmt"
	"math"
	"math/rand"
	"slices"
	"testing"

	"fettle/api"
	"fettle/check"
	"fettle/code"
)

// small are the modules whose numbers are each tried with others instead.
func small() []named {
	return []named{{"sum", module(sum())}, {"all", all()}}
}

// P3.2: the first four bytes, none of them, and too few of them.
func TestFirstBytes(t *testing.T) {
	whole := bytesOf(all())
	refused(t, "none", nil, 0, api.ErrForm)
	refused(t, "none", []byte{}, 0, api.ErrForm)
	for i := range 4 {
		refused(t, "too few", whole[:i], 0, api.ErrForm)
		for c := range 256 {
			b := slices.Clone(whole)
			if b[i] = byte(c); b[i] != whole[i] {
				refused(t, fmt.Sprint("byte ", i), b, 0, api.ErrForm)
				refused(t, fmt.Sprint("byte ", i), b[:i+1], 0, api.ErrForm)
			}
		}
		refused(t, "one less", slices.Delete(slices.Clone(whole), i, i+1), 0, api.ErrForm)
		refused(t, "one more", slices.Insert(slices.Clone(whole), i, 'x'), 0, api.ErrForm)
	}
	refused(t, "other ones", []byte("FTL1\x00"), 0, api.ErrForm)
	refused(t, "too many zeros", make([]byte, 1000), 0, api.ErrForm)
}

// P3.2, P3.4: a beginning of a module's bytes is refused at the number that
// is cut off, or that there isn't.
func TestBeginnings(t *testing.T) {
	for _, x := range proper() {
		l := pieces(x.m)
		if len(l) > 2000 {
			l = l[:2000]
		}
		whole, at := spelt(l), 4
		for _, p := range l {
			size := len(binary.AppendUvarint(nil, p.value))
			for cut := range size {
				refused(t, fmt.Sprint(x.name, ", cut at ", at+cut), whole[:at+cut:at+cut], at, api.ErrForm)
			}
			at += size
		}
	}
}

// P3.2, P3.4: bytes behind all are refused at the first of them, ahead of
// what check.Module says.
func TestBehind(t *testing.T) {
	l := []api.Module{}
	for _, x := range proper() {
		l = append(l, x.m)
	}
	for _, m := range append(l, module(api.Func{}), module(quiet(0), api.Func{Params: 9})) {
		b := bytesOf(m)
		for c := range 256 {
			refused(t, "one more", append(slices.Clip(b), byte(c)), len(b), api.ErrForm)
		}
		refused(t, "more", append(slices.Clip(b), 0, 0, 0), len(b), api.ErrForm)
		refused(t, "twice", append(slices.Clip(b), b...), len(b), api.ErrForm)
	}
}

// overlong is a number in one byte more than it needs.
func overlong(n uint64) []byte {
	b := binary.AppendUvarint(nil, n)
	b[len(b)-1] |= 0x80
	return append(b, 0)
}

// long is n bytes with their highest bit set, and a last one.
func long(n int, each, last byte) []byte {
	return append(bytes.Repeat([]byte{each}, n), last)
}

// P3.2: each number that isn't written so is refused at its first byte.
func TestIllWritten(t *testing.T) {
	for _, x := range small() {
		l := pieces(x.m)
		for i, p := range l {
			for _, ill := range [][]byte{
				overlong(p.value), append(long(1, 0x80, 0x80), 0), long(1, 0x81, 0), long(1, 0xff, 0),
				long(8, 0xff, 0), long(9, 0xff, 0), long(9, 0x80, 0),
				long(9, 0x80, 2), long(9, 0xff, 3), long(9, 0xff, 0x7f), long(9, 0x80, 0x40),
				long(10, 0x80, 0), long(10, 0x80, 1), long(10, 0xff, 0), long(10, 0xff, 1), long(10, 0xff, 0x7f),
				long(11, 0x80, 1), long(20, 0x80, 1), long(70, 0xff, 1), bytes.Repeat([]byte{0x80}, 100),
			} {
				b, at := instead(l, i, ill...)
				refused(t, fmt.Sprintf("%s: % x as number %d", x.name, ill, i), b, at, api.ErrForm)
				refused(t, fmt.Sprintf("%s: % x as number %d, the last", x.name, ill, i), b[:at+len(ill)], at, api.ErrForm)
			}
		}
	}
}

// wellWritten holds that Decode finds nothing amiss in how bytes are written:
// it tells the module whose bytes they are, or what check says of one of so
// many functions.
func wellWritten(t *testing.T, what string, b []byte, funcs int) {
	t.Helper()
	m, err := code.Decode(b)
	if err == nil {
		if !bytes.Equal(bytesOf(m), b) {
			t.Errorf("%s: Decode: %v", what, m)
		}
		return
	}
	s, ok := err.(*api.Spot)
	if !ok || s.At >= funcs || s.Err == error(api.ErrForm) || !isNothing(m) {
		t.Errorf("%s: Decode: %v, %v, want what check says", what, m, err)
	}
}

// P3.2: numbers above 2^31 are refused where they have no sign, also as how
// many there are.
func TestAbove(t *testing.T) {
	for _, x := range small() {
		l := pieces(x.m)
		for i, p := range l {
			for _, n := range []uint64{
				1<<31 + 1, 1<<31 + 2, 1 << 32, 1<<32 + p.value, 1 << 53, 1 << 62,
				1<<63 - 1, 1 << 63, 1<<63 + p.value, math.MaxUint64 - 1, math.MaxUint64,
			} {
				b, at := instead(l, i, binary.AppendUvarint(nil, n)...)
				what := fmt.Sprintf("%s: %d as number %d", x.name, n, i)
				if p.signed {
					wellWritten(t, what, b, len(x.m.Funcs))
				} else {
					refused(t, what, b, at, api.ErrForm)
				}
			}
		}
	}
}

// P3.2: 2^31 itself, and what is below it, is a number as others are.
func TestUpTo(t *testing.T) {
	numbers := []uint64{1<<31 - 1, 1 << 31}
	for n := range uint64(300) {
		numbers = append(numbers, n)
	}
	for _, x := range small() {
		l := pieces(x.m)
		for i, p := range l {
			if p.limit > 0 {
				continue
			}
			for _, n := range numbers {
				b, _ := instead(l, i, binary.AppendUvarint(nil, n)...)
				wellWritten(t, fmt.Sprintf("%s: %d as number %d", x.name, n, i), b, len(x.m.Funcs))
			}
		}
	}
}

// P3.2: how many there are, above the limit and up to 2^31, whatever follows,
// is refused at its first byte.
func TestTooMany(t *testing.T) {
	for _, x := range small() {
		l := pieces(x.m)
		for i, p := range l {
			if p.limit == 0 {
				continue
			}
			for _, n := range []int{p.limit + 1, p.limit + 2, 2*p.limit + 1, 1 << 16, 1<<31 - 1, 1 << 31} {
				many := binary.AppendUvarint(nil, uint64(n))
				b, at := instead(l, i, many...)
				what := fmt.Sprintf("%s: %d as number %d", x.name, n, i)
				refused(t, what, b, at, api.ErrLarge)
				refused(t, what+", the last", b[:at+len(many)], at, api.ErrLarge)
				refused(t, what+", and zeros", append(b[:at+len(many)], make([]byte, 1<<10)...), at, api.ErrLarge)
				refused(t, what+", and what is ill", append(b[:at+len(many)], 0x80, 0), at, api.ErrLarge)
			}
		}
	}
}

// atLimit are modules with a list of as many as its limit, and some more.
func atLimit(more int) []named {
	args, phiArgs, to, phis, ins, blocks := quiet(1), quiet(1), quiet(1), quiet(1), quiet(1), quiet(0)
	args.Blocks[0].Ins = []api.Instr{{Op: api.OpOut, Dst: -1, Args: make([]int, api.MaxRegs+more)}}
	phiArgs.Blocks[0].Phis = []api.Phi{{Dst: 0, Args: make([]int, api.MaxRegs+more)}}
	to.Blocks[0].Term = jump(make([]int, api.MaxRegs+more)...)
	phis.Blocks[0].Phis = make([]api.Phi, api.MaxIns+more)
	ins.Blocks[0].Ins = slices.Repeat([]api.Instr{constant(0, 0)}, api.MaxIns+more)
	blocks.Blocks = slices.Repeat(blocks.Blocks, api.MaxBlocks+more)
	return []named{
		{"Args", module(args)}, {"a phi's Args", module(phiArgs)}, {"To", module(to)},
		{"phis", module(phis)}, {"instructions", module(ins)}, {"blocks", module(blocks)},
		{"registers", module(quiet(api.MaxRegs + more))},
		{"functions", module(slices.Repeat([]api.Func{quiet(0)}, api.MaxFuncs+more)...)},
	}
}

// firstAbove is the place of the first number that is how many there are,
// and above its limit; -1, if there is none.
func firstAbove(m api.Module) int {
	l := pieces(m)
	for i, p := range l {
		if p.limit > 0 && p.value > uint64(p.limit) {
			return len(spelt(l[:i]))
		}
	}
	return -1
}

// P3.2: of lists with as many as their limit check.Module says what it says;
// one more is above it.
func TestLimits(t *testing.T) {
	for _, x := range atLimit(0) {
		told(t, x.name, x.m)
	}
	for _, x := range atLimit(1) {
		at := firstAbove(x.m)
		if at < 4 {
			t.Fatal(x.name, at)
		}
		refused(t, x.name+", one too many", bytesOf(x.m), at, api.ErrLarge)
	}
}

// told holds that Decode says of a module's bytes what check.Module says of
// the module.
func told(t *testing.T, what string, m api.Module) {
	t.Helper()
	got, err := code.Decode(bytesOf(m))
	want := check.Module(m)
	if fmt.Sprintf("%T %v", err, err) != fmt.Sprintf("%T %v", want, want) {
		t.Errorf("%s: Decode: %v, want %v", what, err, want)
	}
	if want == nil && !same(got, m) || want != nil && !isNothing(got) {
		t.Errorf("%s: %v beside %v", what, got, err)
	}
}

// P3.2: check.Module's error of what is written well.
func TestDecodeImproper(t *testing.T) {
	seen := map[api.Code]int{}
	for i, m := range improper() {
		if slices.ContainsFunc(pieces(m), func(p piece) bool { return !p.signed && p.value > 1<<31 }) || firstAbove(m) >= 0 {
			continue
		}
		told(t, fmt.Sprint("module ", i), m)
		_, err := code.Decode(bytesOf(m))
		if s, ok := err.(*api.Spot); ok {
			seen[s.Err.(api.Code)]++
		}
	}
	if len(seen) != 4 {
		t.Error("errors: ", seen)
	}
}

// P3.2, R1: of several faults the first one in the bytes is told, be it of
// form or too large; ahead of what check says of an earlier function.
func TestFirstFault(t *testing.T) {
	refused(t, "large, then ill", []byte("ftl1\x21\x80\x00"), 4, api.ErrLarge)
	refused(t, "ill, then large", []byte("ftl1\x01\x80\x00\x00\x81\x02"), 5, api.ErrForm)
	refused(t, "above, then more", []byte("ftl1\x01\x00\x00\x00\x41\xff\xff"), 8, api.ErrLarge)
	l := pieces(module(api.Func{Params: 9}, quiet(0)))
	b, at := instead(l, len(l)-1, 0x80, 0)
	refused(t, "improper, then ill", b, at, api.ErrForm)
	b, at = instead(l, len(l)-1, 0x81, 2)
	refused(t, "improper, then large", b, at, api.ErrLarge)
	refused(t, "improper, then cut", b[:at], at, api.ErrForm)
}

// P1, P3.2, P3.4: any bytes are refused as the chapter says, or are those of
// the module that is told.
func anyBytes(t *testing.T, b []byte) (proper bool) {
	t.Helper()
	m, err := code.Decode(b)
	if err == nil {
		if again, err := code.Encode(m); err != nil || !bytes.Equal(again, b) {
			t.Errorf("% x are decoded, but not encoded: % x, %v", b, again, err)
		}
		return true
	}
	s, ok := err.(*api.Spot)
	switch {
	case !ok || !isNothing(m):
		t.Errorf("% x: %v beside %v", b, m, err)
	case s.Err == error(api.ErrForm):
		ok = s.At == 0 || s.At >= 4 && s.At <= len(b)
	case s.Err == error(api.ErrLarge):
		ok = s.At >= 0 && s.At < max(len(b), 1)
	default:
		ok = s.At >= 0 && s.At < api.MaxFuncs && (s.Err == error(api.ErrType) || s.Err == error(api.ErrNone) || s.Err == error(api.ErrShape))
	}
	if !ok {
		t.Errorf("% x: %v", b, err)
	}
	return false
}

// P1, P3.4: bytes with some changed, taken out or put in.
func TestAnyBytes(t *testing.T) {
	r := rand.New(rand.NewSource(4))
	good := 0
	for range 30000 {
		b := bytesOf(small()[r.Intn(2)].m)
		if r.Intn(4) == 0 {
			b = bytesOf(anyModule(r))
		}
		for range 1 + r.Intn(3) {
			i := r.Intn(len(b))
			switch r.Intn(4) {
			case 0:
				b[i] = byte(r.Intn(256))
			case 1:
				b[i] ^= 1 << r.Intn(8)
			case 2:
				b = append(slices.Delete(b, i, i+1), 0)
			default:
				b = slices.Insert(b, i, byte(r.Intn(256)))
			}
		}
		if anyBytes(t, b) {
			good++
		}
	}
	if good < 100 {
		t.Error("only so many were modules: ", good)
	}
}

// P1: many bytes of no sense end soon, without a panic.
func TestManyBytes(t *testing.T) {
	for c := range 256 {
		b := append([]byte("ftl1"), bytes.Repeat([]byte{byte(c)}, 1<<14)...)
		anyBytes(t, b)
		b[4] = 32
		anyBytes(t, b)
	}
	r := rand.New(rand.NewSource(5))
	for range 2000 {
		b := append([]byte("ftl1"), make([]byte, 1<<10)...)
		for i := range b[4:] {
			b[4+i] = byte(r.Intn(1 + r.Intn(4)))
		}
		anyBytes(t, b)
	}
}
