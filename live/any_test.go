package live_test

import (
	"fmt"
	"math/rand"
	"slices"
	"testing"

	"fettle/api"
	"fettle/check"
	"fettle/live"
	"fettle/run"
	"fettle/sample"
)

// What follows up to the first test tells the chapter's answers once more, going
// forward from each place to whatever names a register next, or makes it.

// doesWithin tells what a block does first with a register, its phis left
// out: uses it, or else makes it, or neither.
func doesWithin(b api.Block, reg int) (uses, makes bool) {
	for _, in := range b.Ins {
		if slices.Contains(in.Args, reg) {
			return true, false
		}
		if in.Dst == reg {
			return false, true
		}
	}
	return b.Term.Arg == reg, false
}

// argOf is the Arg of a phi that stands for a block.
func argOf(f api.Func, p api.Phi, from, to int) int {
	at := 0
	for b := range from {
		if slices.Contains(f.Blocks[b].Term.To, to) {
			at++
		}
	}
	return p.Args[at]
}

// isMadeByPhis tells whether a block's phis make a register.
func isMadeByPhis(b api.Block, reg int) bool {
	return slices.ContainsFunc(b.Phis, func(p api.Phi) bool { return p.Dst == reg })
}

// isWantedBehind tells whether one comes from a block's end to a use of a
// register without coming by what makes it; gone are ends come by already.
func isWantedBehind(f api.Func, b, reg int, gone []bool) bool {
	if gone[b] {
		return false
	}
	gone[b] = true
	for _, to := range f.Blocks[b].Term.To {
		if slices.ContainsFunc(f.Blocks[to].Phis, func(p api.Phi) bool { return argOf(f, p, b, to) == reg }) {
			return true
		}
		if isMadeByPhis(f.Blocks[to], reg) {
			continue
		}
		uses, makes := doesWithin(f.Blocks[to], reg)
		if uses || !makes && isWantedBehind(f, to, reg, gone) {
			return true
		}
	}
	return false
}

// wantOf is what is wanted at all of a function's blocks.
func wantOf(f api.Func) []at {
	var want []at
	for i, b := range f.Blocks {
		var l at
		for r := range f.Regs {
			end := isWantedBehind(f, i, r, make([]bool, len(f.Blocks)))
			if end {
				l.end = append(l.end, r)
			}
			uses, makes := doesWithin(b, r)
			if !isMadeByPhis(b, r) && (uses || end && !makes) {
				l.beginning = append(l.beginning, r)
			}
		}
		want = append(want, l)
	}
	return want
}

// countOf is how often a function's registers are named as Args.
func countOf(f api.Func) []int {
	var args []int
	for _, b := range f.Blocks {
		args = append(args, b.Term.Arg)
		for _, p := range b.Phis {
			args = append(args, p.Args...)
		}
		for _, in := range b.Ins {
			args = append(args, in.Args...)
		}
	}
	count := make([]int, len(f.Regs))
	for r := range count {
		count[r] = len(slices.DeleteFunc(slices.Clone(args), func(a int) bool { return a != r }))
	}
	return count
}

// has tells whether a list has a register.
func has(l []int, reg int) bool { return slices.Contains(l, reg) }

// P8.1: what is told of the functions of any proper modules.
func TestAny(t *testing.T) {
	seen := sample.Tally{}
	eachProper(2, func(what string, r *rand.Rand, m api.Module, f int) {
		fn := m.Funcs[f]
		want := wantOf(fn)
		if got := told(t, what, m, f); !same(got, want) {
			t.Errorf("%s: Live: %v, want %v", what, got, want)
		}
		if got, err := live.Count(m, f); err != nil || !slices.Equal(got, countOf(fn)) {
			t.Errorf("%s: Count: %v, %v, want %v", what, got, err, countOf(fn))
		}
		for b, l := range want {
			for reg := range fn.Regs {
				uses, makes := doesWithin(fn.Blocks[b], reg)
				phis := isMadeByPhis(fn.Blocks[b], reg)
				seen.Add("used", uses && has(l.beginning, reg) && !has(l.end, reg))
				seen.Add("through", !uses && has(l.beginning, reg) && has(l.end, reg))
				seen.Add("made, wanted behind", makes && has(l.end, reg))
				seen.Add("made for nothing", makes && !has(l.end, reg))
				seen.Add("phis make it, used", phis && uses)
				seen.Add("phis make it, wanted behind", phis && !uses && !makes && has(l.end, reg))
				seen.Add("neither", !has(l.beginning, reg) && !has(l.end, reg))
			}
		}
	})
	seen.Enough(t, "used", "through", "made, wanted behind", "made for nothing", "phis make it, used",
		"phis make it, wanted behind", "neither")
}

// insOfAll are what each block of TestAllOfThree may have.
func insOfAll() [][]api.Instr {
	return [][]api.Instr{
		nil,
		{out(0)},
		{constant(0, 1)},
		{op(api.OpAdd, 0, 0, 0)},
		{constant(0, 1), out(0)},
		{op(api.OpCopy, 1, 0)},
	}
}

// endsOfAll are how each block of TestAllOfThree may end but the first one.
func endsOfAll() []api.Term {
	return []api.Term{giveBack(1), jump(1), jump(2), branch(2, 1, 2)}
}

// phiOfAll is one that a block of TestAllOfThree may have; none, if it is 0.
func phiOfAll(n, ahead int) []api.Phi {
	if n == 0 {
		return nil
	}
	return []api.Phi{phi(n/2, slices.Repeat([]int{n % 2}, ahead)...)}
}

// eachOfThree goes through all functions of three blocks of these.
func eachOfThree(by func(what string, f api.Func)) {
	ins, ends := insOfAll(), endsOfAll()
	for n := range 3 * 16 * 6 * 6 * 6 * 9 {
		pick := func(many int) int {
			picked := n % many
			n /= many
			return picked
		}
		what := fmt.Sprint("function ", n)
		f := function(0, api.TypeInt, []int{1, 1, 2},
			block(ends[1+pick(3)], ins[pick(6)]...),
			block(ends[pick(4)], ins[pick(6)]...),
			block(ends[pick(4)], ins[pick(6)]...))
		ahead := check.Ahead(f)
		for b := 1; b < 3; b++ {
			f.Blocks[b].Phis = phiOfAll(pick(3), len(ahead[b]))
		}
		by(what, f)
	}
}

// P8.1: all functions of three blocks that use, make and pass on a register.
func TestAllOfThree(t *testing.T) {
	eachOfThree(func(what string, f api.Func) {
		if t.Failed() {
			return
		}
		if got, want := told(t, what, module(f), 0), wantOf(f); !same(got, want) {
			t.Errorf("%s: Live of\n%v: %v, want %v", what, f, got, want)
		}
	})
}

// anyOf is any value of a type.
func anyOf(r *rand.Rand, typ int) int64 {
	if typ == api.TypeBool {
		return r.Int63n(2)
	}
	return r.Int63() >> r.Intn(63)
}

// between is a function whose block's ways go by new blocks, one each, that
// have these instructions.
func between(f api.Func, block int, ins []api.Instr) api.Func {
	g := sample.Copy(f)
	ahead := check.Ahead(f)
	for i, to := range f.Blocks[block].Term.To {
		stood := slices.Index(ahead[to], block)
		for p := range g.Blocks[to].Phis { // the new block is behind all others
			args := &g.Blocks[to].Phis[p].Args
			arg := (*args)[stood]
			*args = append(slices.Delete(*args, stood, stood+1), arg)
		}
		g.Blocks[block].Term.To[i] = len(g.Blocks)
		g.Blocks = append(g.Blocks, sample.Block(jump(to), ins...))
	}
	return g
}

// P8.3: a register that isn't wanted at a block's end may have any value there,
// and the function does the same.
func TestMayBeAnything(t *testing.T) {
	seen := sample.Tally{}
	eachProper(3, func(what string, r *rand.Rand, m api.Module, f int) {
		fn := m.Funcs[f]
		var args []int64
		for _, typ := range fn.Regs[:fn.Params] {
			args = append(args, anyOf(r, typ))
		}
		want, err := run.Run(m, f, args, 1000)
		if err != nil || !want.Done {
			return
		}
		_, end, _ := live.Live(m, f)
		for b := range fn.Blocks {
			var ins []api.Instr
			for reg, is := range end[b] {
				if !is {
					ins = append(ins, constant(reg, anyOf(r, fn.Regs[reg])))
				}
			}
			n := api.Module{Funcs: slices.Clone(m.Funcs)}
			n.Funcs[f] = between(fn, b, ins)
			got, err := run.Run(n, f, args, api.MaxRun)
			seen.Add("other ways gone", got.Steps > want.Steps+1)
			got.Steps = want.Steps
			if err != nil || fmt.Sprint(got) != fmt.Sprint(want) {
				t.Errorf("%s, block %d: %v, %v, want %v", what, b, got, err, want)
			}
		}
	})
	seen.Enough(t, "other ways gone")
}

// P8.3: what isn't named is wanted nowhere.
func TestNotNamed(t *testing.T) {
	seen := sample.Tally{}
	eachProper(4, func(what string, r *rand.Rand, m api.Module, f int) {
		count, err := live.Count(m, f)
		if err != nil {
			t.Fatal(what, err)
		}
		for b, l := range told(t, what, m, f) {
			for reg, n := range count {
				if n == 0 && (has(l.beginning, reg) || has(l.end, reg)) {
					t.Errorf("%s: register %d isn't named, but wanted at block %d", what, reg, b)
				}
				seen.Add("not named", n == 0)
			}
		}
	})
	seen.Enough(t, "not named")
}

// P8.2, R2: what is handed in stays as it is.
func TestHandedInStays(t *testing.T) {
	eachProper(5, func(what string, r *rand.Rand, m api.Module, f int) {
		was := sample.CopyModule(m)
		live.Live(m, f)
		unchanged(t, what+", Live", m, was)
		live.Count(m, f)
		unchanged(t, what+", Count", m, was)
	})
	r := rand.New(rand.NewSource(6))
	for range 3000 {
		m := module(sample.Odd(r.Intn))
		was := sample.CopyModule(m)
		live.Live(m, 0)
		live.Count(m, 0)
		unchanged(t, "any function", m, was)
	}
}

// turn turns over a list, and what is behind it as far as its memory goes.
func turn(l []bool) {
	l = l[:cap(l)]
	for i := range l {
		l[i] = !l[i]
	}
}

// P8.2, R2: what is told is new memory: written over it changes neither what
// was handed in nor what is told elsewhere, nor another list of the same answer.
func TestToldIsNew(t *testing.T) {
	eachProper(7, func(what string, r *rand.Rand, m api.Module, f int) {
		was := sample.CopyModule(m)
		beginning, end, _ := live.Live(m, f)
		count, _ := live.Count(m, f)
		before := fmt.Sprint(beginning, end, count)
		again, againEnd, _ := live.Live(m, f)
		all := append(slices.Clone(again), againEnd...)
		for i, l := range all {
			others := slices.Delete(slices.Clone(all), i, i+1)
			told := fmt.Sprint(others)
			turn(l)
			if fmt.Sprint(others) != told {
				t.Errorf("%s: list %d shares with another one", what, i)
			}
		}
		clear(again[:cap(again)])
		clear(againEnd[:cap(againEnd)])
		others, _ := live.Count(m, f)
		for i := range others {
			others[i] = -99
		}
		unchanged(t, what, m, was)
		if now := fmt.Sprint(beginning, end, count); now != before {
			t.Errorf("%s: told\n%s, now it is\n%s", what, before, now)
		}
	})
}

// P8.2, R2: the place of a fault is new memory, too.
func TestSpotIsNew(t *testing.T) {
	bad := module(sample.Sum(), api.Func{})
	for range 2 {
		_, _, err := live.Live(bad, 0)
		_, err2 := live.Count(bad, 0)
		for _, err := range []error{err, err2} {
			s, ok := err.(*api.Spot)
			if !ok || s.At != 1 || s.Err != error(api.ErrLarge) {
				t.Fatal(err)
			}
			s.At, s.Err = 99, nil
		}
	}
}
