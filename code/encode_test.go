package code_test

import (
	"bytes"
	"encoding/hex"
	"fmt"
	"math"
	"math/rand"
	"slices"
	"strings"
	"testing"

	"fettle/api"
	"fettle/check"
	"fettle/code"
)

// written are bytes told in hexadecimal.
func written(t *testing.T, text string) []byte {
	t.Helper()
	b, err := hex.DecodeString(strings.Join(strings.Fields(text), ""))
	if err != nil {
		t.Fatal(err)
	}
	return b
}

// both holds that a module is encoded as those bytes, and they are decoded
// as it.
func both(t *testing.T, what string, m api.Module, want []byte) {
	t.Helper()
	if b := encoded(t, what, m); !bytes.Equal(b, want) {
		t.Errorf("%s: Encode: % x, want % x", what, b, want)
	}
	if got := decoded(t, what, want); !same(got, m) {
		t.Errorf("%s: Decode: %v, want %v", what, got, m)
	}
}

// P3.1, P3.2: modules whose bytes are written by hand.
func TestByHand(t *testing.T) {
	both(t, "nothing", module(), written(t, "66 74 6c 31 00"))
	both(t, "nothing", api.Module{Funcs: []api.Func{}}, written(t, "66746c3100"))
	both(t, "quiet", module(quiet(0)), written(t, "66746c31 01  00 00 00  01  00 00  03 00 00"))
	both(t, "sum", module(sum()), written(t, `
		66746c31 01  01 01  05 01 01 01 01 02  04
		00  00  01 00 01 01
		00  01 0c 05 02 01 00 00 00  02 05 02 02 03
		00  03 01 04 00 02 00  03 03 02 02 01 00 00  03 02 02 01 03 00 00  01 00 01 01
		00  00  03 03 00`))
	both(t, "round", module(quiet(1), round()), written(t, `
		66746c31 02
		00 00  01 01  01  00 00 03 00 00
		01 01  06 01 01 01 01 02 01  04
		00  02 01 02 00 00 00  01 06 00 02 00  01 00 01 01
		02 02 02 01 03  03 02 05 05  01 0c 05 02 02 00 00 00  02 05 02 02 03
		00  02 03 04 02 02 05 00 00  12 00 01 03 00 00  01 00 01 01
		00  00  03 03 00`))
	caller := api.Func{Params: 1, Result: api.TypeBool, Regs: []int{2, 1}, Blocks: []api.Block{{
		Ins:  []api.Instr{{Op: api.OpCall, Dst: 0, Args: []int{0}, Fun: 2}},
		Term: giveBack(0),
	}}}
	both(t, "calls", module(quiet(0), quiet(0), caller), written(t, `
		66746c31 03  00 00 00 01 00 00 03 00 00  00 00 00 01 00 00 03 00 00
		01 02  02 02 01  01  00  01 11 01 01 00 00 02  03 01 00`))
}

// P3.1, P3.2: numbers with a sign, at each length's edges.
func TestSigns(t *testing.T) {
	for _, x := range []struct {
		imm   int64
		bytes string
	}{
		{0, "00"}, {-1, "01"}, {1, "02"}, {-2, "03"}, {2, "04"}, {63, "7e"}, {-64, "7f"},
		{64, "8001"}, {-65, "8101"}, {65, "8201"}, {150, "ac02"}, {8191, "fe7f"}, {-8192, "ff7f"},
		{8192, "808001"}, {-8193, "818001"}, {1 << 20, "80808001"}, {1 << 27, "8080808001"},
		{1 << 31, "8080808010"}, {1<<34 - 1, "feffffff7f"}, {-1 << 34, "ffffffff7f"},
		{1 << 34, "808080808001"}, {1 << 62, "80808080808080808001"}, {-1 << 62, "ffffffffffffffff7f"},
		{1<<62 - 1, "feffffffffffffff7f"}, {-1<<62 - 1, "81808080808080808001"},
		{math.MaxInt64, "feffffffffffffffff01"}, {math.MinInt64, "ffffffffffffffffff01"},
	} {
		f := quiet(1)
		f.Blocks[0].Ins = []api.Instr{constant(0, x.imm)}
		both(t, fmt.Sprint(x.imm), module(f), written(t, "66746c31 01 00 00 01 01 01 00 01 01 01 00 "+x.bytes+" 00 03 00 00"))
	}
}

// P3.1, P3.2: numbers without a sign, at the edges of one byte and of what a
// proper module has.
func TestRegisters(t *testing.T) {
	for reg, bytes := range map[int][2]string{
		0: {"00", "01"}, 1: {"01", "02"}, 126: {"7e", "7f"}, 127: {"7f", "8001"},
		128: {"8001", "8101"}, 254: {"fe01", "ff01"}, 255: {"ff01", "8002"},
	} {
		f := quiet(256)
		f.Blocks[0].Phis = []api.Phi{{Dst: reg}}
		f.Blocks[0].Ins = []api.Instr{{Op: api.OpCopy, Dst: reg, Args: []int{reg}}}
		f.Result, f.Blocks[0].Term.Arg = api.TypeInt, reg
		text := "66746c31 01 00 01 8002" + strings.Repeat("01", 256) + "01 01" + bytes[0] + "00" +
			"01 02" + bytes[1] + "01" + bytes[0] + "00 00  03" + bytes[1] + "00"
		both(t, fmt.Sprint("register ", reg), module(f), written(t, text))
	}
}

// P3.1, P3.2, P3.4: modules of all kinds come to the bytes that the chapter
// tells, and back to themselves.
func TestProper(t *testing.T) {
	for _, x := range proper() {
		both(t, x.name, x.m, bytesOf(x.m))
	}
}

// improper are modules that are none, with each of check's errors.
func improper() []api.Module {
	change := func(by func(f *api.Func)) api.Func {
		f := round()
		by(&f)
		return f
	}
	funcs := []api.Func{
		{},
		change(func(f *api.Func) { f.Regs = ints(257) }),
		change(func(f *api.Func) { f.Regs[5] = 3 }),
		change(func(f *api.Func) { f.Params = 9 }),
		change(func(f *api.Func) { f.Params = -1 }),
		change(func(f *api.Func) { f.Result = math.MinInt }),
		change(func(f *api.Func) { f.Blocks[0].Term.Kind = 4 }),
		change(func(f *api.Func) { f.Blocks[0].Term.To[0] = -5 }),
		change(func(f *api.Func) { f.Blocks[1].Phis[0].Args = nil }),
		change(func(f *api.Func) { f.Blocks[1].Phis[0].Dst = -1 }),
		change(func(f *api.Func) { f.Blocks[0].Ins[0].Dst = math.MaxInt }),
		change(func(f *api.Func) { f.Blocks[0].Ins[0].Op = -1 }),
		change(func(f *api.Func) { f.Blocks[2].Ins[0].Imm = 1 }),
		change(func(f *api.Func) { f.Blocks[3].Term.Arg = -2 }),
		change(func(f *api.Func) { f.Blocks[3].Term.Arg = 4 }),
		change(func(f *api.Func) { f.Blocks[3].Term.Arg = 6 }),
		change(func(f *api.Func) { f.Blocks[1].Phis[1].Args[1] = 6 }),
		change(func(f *api.Func) { f.Blocks[2].Ins[0].Dst = -1 }),
	}
	l := []api.Module{module(slices.Repeat([]api.Func{quiet(0)}, api.MaxFuncs+1)...)}
	for _, f := range funcs {
		l = append(l, module(f), module(quiet(0), sum(), f), module(f, api.Func{}))
	}
	return l
}

// P3.1, R3: check.Module's error, and no bytes beside it.
func TestEncodeImproper(t *testing.T) {
	seen := map[api.Code]int{}
	for i, m := range improper() {
		b, err := code.Encode(m)
		want := check.Module(m)
		if want == nil {
			t.Fatalf("module %d is proper", i)
		}
		if fmt.Sprintf("%T %v", err, err) != fmt.Sprintf("%T %v", want, want) {
			t.Errorf("module %d: Encode: %v, want %v", i, err, want)
		}
		if len(b) > 0 {
			t.Errorf("module %d: bytes beside %v", i, err)
		}
		if s, ok := err.(*api.Spot); ok {
			seen[s.Err.(api.Code)]++
		} else {
			seen[0]++
		}
	}
	if len(seen) != 5 {
		t.Error("errors: ", seen)
	}
}

// otherwise are modules that differ from one another in one thing.
func otherwise() []api.Module {
	l := []api.Module{module(), module(quiet(0)), module(quiet(0), quiet(0)), module(quiet(0), quiet(0), quiet(0))}
	change := func(by func(f *api.Func)) {
		f := api.Func{Params: 1, Result: api.TypeInt, Regs: ints(6), Blocks: []api.Block{
			{Ins: []api.Instr{{Op: api.OpAdd, Dst: 0, Args: []int{1, 2}}}, Term: jump(1)},
			{Term: giveBack(3)},
			{Term: giveBack(4)},
		}}
		f.Regs[5] = api.TypeBool
		by(&f)
		l = append(l, module(f, quiet(1), quiet(1)))
	}
	into := func(in api.Instr) { change(func(f *api.Func) { f.Blocks[0].Ins[0] = in }) }
	change(func(f *api.Func) {})
	change(func(f *api.Func) { f.Params = 2 })
	change(func(f *api.Func) { f.Regs[0] = api.TypeInt; f.Regs = append(f.Regs, api.TypeInt) })
	change(func(f *api.Func) { f.Regs = append(f.Regs, api.TypeBool) })
	change(func(f *api.Func) { f.Blocks[0].Term.To[0] = 2 })
	change(func(f *api.Func) { f.Blocks[0].Term = branch(5, 1, 2) })
	change(func(f *api.Func) { f.Blocks[0].Term = branch(5, 2, 1) })
	change(func(f *api.Func) { f.Blocks[0].Term = giveBack(1) })
	change(func(f *api.Func) { f.Blocks[1].Term.Arg = 4 })
	change(func(f *api.Func) { f.Blocks[2].Term.Arg = 3 })
	change(func(f *api.Func) { f.Blocks = f.Blocks[:2] })
	change(func(f *api.Func) { f.Blocks[0].Ins = nil })
	change(func(f *api.Func) { f.Blocks[1].Ins, f.Blocks[0].Ins = f.Blocks[0].Ins, nil })
	change(func(f *api.Func) { f.Blocks[1].Phis = []api.Phi{{Dst: 1, Args: []int{2}}} })
	change(func(f *api.Func) { f.Blocks[1].Phis = []api.Phi{{Dst: 2, Args: []int{2}}} })
	change(func(f *api.Func) { f.Blocks[1].Phis = []api.Phi{{Dst: 2, Args: []int{1}}} })
	change(func(f *api.Func) { f.Blocks[2].Phis = []api.Phi{{Dst: 2}} })
	for op := api.OpSub; op <= api.OpDiv; op++ {
		into(api.Instr{Op: op, Dst: 0, Args: []int{1, 2}})
	}
	into(api.Instr{Op: api.OpAdd, Dst: 1, Args: []int{1, 2}})
	into(api.Instr{Op: api.OpAdd, Dst: 0, Args: []int{2, 2}})
	into(api.Instr{Op: api.OpAdd, Dst: 0, Args: []int{2, 1}})
	for _, imm := range []int64{0, 1, -1, 1 << 32, 1 << 63 >> 1, math.MinInt64, math.MaxInt64} {
		into(constant(0, imm))
	}
	for fun := 1; fun <= 2; fun++ {
		into(api.Instr{Op: api.OpCall, Dst: -1, Fun: fun})
	}
	return l
}

// P3.4: unlike modules have unlike bytes.
func TestUnlike(t *testing.T) {
	seen := map[string]int{}
	for i, m := range otherwise() {
		b := encoded(t, fmt.Sprint("module ", i), m)
		if j, is := seen[string(b)]; is {
			t.Errorf("modules %d and %d have the same bytes", j, i)
		}
		seen[string(b)] = i
		both(t, fmt.Sprint("module ", i), m, b)
	}
}

// anyFunc is a function of any blocks, over ints and bools. It may not be
// proper: where two Tos are alike it isn't.
func anyFunc(r *rand.Rand) api.Func {
	f := api.Func{Params: r.Intn(9), Result: r.Intn(3), Regs: ints(8 + r.Intn(200))}
	half := len(f.Regs) / 2
	for i := half; i < len(f.Regs); i++ {
		f.Regs[i] = api.TypeBool
	}
	number, truth := func() int { return r.Intn(half) }, func() int { return half + r.Intn(half) }
	f.Blocks = make([]api.Block, 2+r.Intn(20))
	to := func() int { return 1 + r.Intn(len(f.Blocks)-1) }
	for i := range f.Blocks {
		f.Blocks[i].Term = []api.Term{
			jump(to()), branch(truth(), to(), to()), giveBack([]int{-1, number(), truth()}[f.Result]),
		}[r.Intn(3)]
		for range r.Intn(6) {
			f.Blocks[i].Ins = append(f.Blocks[i].Ins, []api.Instr{
				constant(number(), int64(r.Uint64())>>r.Intn(64)),
				{Op: api.OpAdd + r.Intn(9), Dst: number(), Args: []int{number(), number()}},
				{Op: api.OpLt + r.Intn(2), Dst: truth(), Args: []int{number(), number()}},
				{Op: api.OpCopy, Dst: truth(), Args: []int{truth()}},
				{Op: api.OpStore, Dst: -1, Args: []int{number(), number()}},
			}[r.Intn(5)])
		}
	}
	for i, ahead := range check.Ahead(f) {
		for range r.Intn(3) {
			p := api.Phi{Dst: truth()}
			for range ahead {
				p.Args = append(p.Args, truth())
			}
			f.Blocks[i].Phis = append(f.Blocks[i].Phis, p)
		}
	}
	return f
}

// anyModule is a proper module of any functions.
func anyModule(r *rand.Rand) api.Module {
	var m api.Module
	for range r.Intn(5) {
		if f := anyFunc(r); check.Module(module(f)) == nil {
			m.Funcs = append(m.Funcs, f)
		}
	}
	return m
}

// P3.1, P3.2, P3.4: any modules come to the chapter's bytes, and back.
func TestAnyModules(t *testing.T) {
	r := rand.New(rand.NewSource(3))
	functions := 0
	for i := range 400 {
		m := anyModule(r)
		functions += len(m.Funcs)
		both(t, fmt.Sprint("module ", i), m, bytesOf(m))
	}
	if functions < 300 {
		t.Error("only so many functions: ", functions)
	}
}
