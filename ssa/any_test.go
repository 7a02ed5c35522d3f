package ssa_test

import (
	"fmt"
	"math/rand"
	"slices"
	"testing"

	"fettle/api"
	"fettle/check"
	"fettle/dom"
	"fettle/graph"
	"fettle/live"
	"fettle/run"
	"fettle/sample"
	"fettle/ssa"
)

// What follows up to the first test tells the chapter's function once more, as
// its words stand: register by register, each version asked for from where it
// is named backwards.

// place is where a new register is made: at an instruction, or at one of these.
type place struct{ block, at, old int }

const (
	atPhi  = -1
	atZero = -2
)

// teller tells of a plain module's function, trimmed, what it is built to.
type teller struct {
	f         api.Func
	next      [][]int
	dominates [][]bool
	nearest   []int
	wanted    [][]bool
	made      []place
}

func tellerOf(m api.Module, f int) *teller {
	k := &teller{}
	k.f, _ = graph.Trim(m.Funcs[f])
	k.wanted, _, _ = live.Live(sample.With(m, f, k.f), f)
	k.next, k.dominates, k.nearest = graph.Next(k.f), dom.Dominates(k.f), dom.Nearest(k.f)
	return k
}

// makes tells whether a block makes an old register.
func (k *teller) makes(b, r int) bool {
	return b == 0 || slices.ContainsFunc(k.f.Blocks[b].Ins, func(in api.Instr) bool { return in.Dst == r })
}

// isFrontier tells whether a block is in the frontier of another one.
func (k *teller) isFrontier(b, of int) bool {
	led := slices.ContainsFunc(k.ahead(b), func(from int) bool { return k.dominates[of][from] })
	return led && (b == of || !k.dominates[of][b])
}

// ahead are the blocks ahead of one.
func (k *teller) ahead(b int) []int {
	var l []int
	for from, to := range k.next {
		if slices.Contains(to, b) {
			l = append(l, from)
		}
	}
	return l
}

// phisOf are of each block the old registers that it has a phi of.
func (k *teller) phisOf() [][]int {
	phis := make([][]int, len(k.f.Blocks))
	for r := range k.f.Regs {
		closed := make([]bool, len(k.f.Blocks))
		for more := true; more; {
			more = false
			for b := range closed {
				for of := range closed {
					if !closed[b] && (closed[of] || k.makes(of, r)) && k.isFrontier(b, of) {
						closed[b], more = true, true
					}
				}
			}
		}
		for b := range closed {
			if closed[b] && k.wanted[b][r] {
				phis[b] = append(phis[b], r)
			}
		}
	}
	return phis
}

// number numbers all places at which a new register is made.
func (k *teller) number(phis [][]int) {
	for r := range k.f.Params {
		k.made = append(k.made, place{0, atZero, r})
	}
	for r := k.f.Params; r < len(k.f.Regs); r++ {
		if k.wanted[0][r] {
			k.made = append(k.made, place{0, atZero, r})
		}
	}
	for b := range k.f.Blocks {
		for _, r := range phis[b] {
			k.made = append(k.made, place{b, atPhi, r})
		}
		for i, in := range k.f.Blocks[b].Ins {
			if in.Dst != -1 {
				k.made = append(k.made, place{b, i, in.Dst})
			}
		}
	}
}

// version is an old register's ahead of a block's so manieth instruction.
func (k *teller) version(b, at, r int) int {
	for at--; at >= 0; at-- {
		if v := slices.Index(k.made, place{b, at, r}); v >= 0 {
			return v
		}
	}
	if v := slices.Index(k.made, place{b, atPhi, r}); v >= 0 {
		return v
	}
	if b == 0 {
		return slices.Index(k.made, place{0, atZero, r})
	}
	return k.atEnd(k.nearest[b], r)
}

// atEnd is an old register's version at a block's end.
func (k *teller) atEnd(b, r int) int { return k.version(b, len(k.f.Blocks[b].Ins), r) }

// wantOf is what a module's function is built to, whatever the limits.
func wantOf(m api.Module, f int) api.Func {
	k := tellerOf(m, f)
	phis := k.phisOf()
	k.number(phis)
	g := function(k.f.Params, k.f.Result, nil)
	for _, p := range k.made {
		g.Regs = append(g.Regs, k.f.Regs[p.old])
	}
	for b := range k.f.Blocks {
		c := sample.Copy(k.f).Blocks[b]
		for i := range c.Ins {
			for n, r := range c.Ins[i].Args {
				c.Ins[i].Args[n] = k.version(b, i, r)
			}
			if c.Ins[i].Dst != -1 {
				c.Ins[i].Dst = k.version(b, i+1, c.Ins[i].Dst)
			}
		}
		if c.Term.Arg != -1 {
			c.Term.Arg = k.atEnd(b, c.Term.Arg)
		}
		for _, r := range phis[b] {
			p := phi(slices.Index(k.made, place{b, atPhi, r}))
			for _, from := range k.ahead(b) {
				p.Args = append(p.Args, k.atEnd(from, r))
			}
			c.Phis = append(c.Phis, p)
		}
		g.Blocks = append(g.Blocks, c)
	}
	var zeros []api.Instr
	for v := k.f.Params; v < len(k.made) && k.made[v].at == atZero; v++ {
		zeros = append(zeros, constant(v, 0))
	}
	g.Blocks[0].Ins = append(zeros, g.Blocks[0].Ins...)
	return g
}

// isTooLarge tells whether a function is above a limit.
func isTooLarge(f api.Func) bool {
	items := 0
	for _, b := range f.Blocks {
		items += len(b.Phis) + len(b.Ins) + 1
	}
	return items > 256 || len(f.Regs) > 256
}

// P12.1: what any functions of plain modules are built to.
func TestAny(t *testing.T) {
	seen := sample.Tally{}
	eachPlain(1, func(what string, r *rand.Rand, m api.Module, f int) {
		if err := check.Plain(m); err != nil {
			t.Fatal(what, ": not plain: ", err)
		}
		want := wantOf(m, f)
		if isTooLarge(want) {
			build.Refuses(t, what, m, f, api.ErrLarge)
			seen.Add("too large", true)
			return
		}
		build.Is(t, what, m, f, want)
		seen.Add("without phis", !slices.ContainsFunc(want.Blocks, func(b api.Block) bool { return len(b.Phis) > 0 }))
		seen.Add("zeros", want.Params < len(want.Regs) && len(want.Blocks[0].Ins) > 1 && same(want.Blocks[0].Ins[0], constant(want.Params, 0)))
		seen.Add("fewer blocks", len(want.Blocks) < len(m.Funcs[f].Blocks))
		seen.Add("many blocks", len(want.Blocks) > 20)
		for b, by := range dom.Nearest(want) {
			phis := want.Blocks[b].Phis
			seen.Add("a nearest behind", by > b)
			seen.Add("many phis", len(phis) > 2)
			seen.Add("phis of many", len(phis) > 0 && len(phis[0].Args) > 2)
			seen.Add("no phis of many", len(phis) == 0 && len(check.Ahead(want)[b]) > 1)
		}
	})
	seen.Enough(t, "too large", "without phis", "zeros", "fewer blocks", "many blocks", "a nearest behind", "many phis",
		"phis of many", "no phis of many")
}

// ended is an end that leads to these, and else returns a register.
func ended(to []int) api.Term {
	return []api.Term{giveBack(0), jump(to...), branch(1, to...)}[len(to)]
}

// eachOfFour goes through all functions of four blocks of which each but the
// first one uses a register, makes it of itself, or does nothing with it.
func eachOfFour(by func(what string, f api.Func)) {
	tos := [][]int{nil, {1}, {2}, {3}, {1, 2}, {3, 1}, {2, 3}}
	does := [][]api.Instr{nil, {out(0)}, {add(0, 0, 0)}}
	for n := range 6 * 21 * 21 * 21 {
		what := fmt.Sprint("function ", n)
		pick := func(many int) int {
			picked := n % many
			n /= many
			return picked
		}
		f := function(0, api.TypeInt, []int{1, 2}, block(ended(tos[1+pick(6)])))
		for range 3 {
			f.Blocks = append(f.Blocks, block(ended(tos[pick(7)]), does[pick(3)]...))
		}
		by(what, f)
	}
}

// P12.1: all functions of four blocks that use, make and pass on a register.
func TestAllOfFour(t *testing.T) {
	eachOfFour(func(what string, f api.Func) {
		if !t.Failed() {
			build.Builds(t, what, f, wantOf(module(f), 0))
		}
	})
}

// eachBuilt goes through what any functions are built to that don't get too
// large.
func eachBuilt(seed int64, by func(what string, r *rand.Rand, m api.Module, f int, g api.Func)) {
	eachPlain(seed, func(what string, r *rand.Rand, m api.Module, f int) {
		if g, err := ssa.Build(m, f); err == nil {
			by(what, r, m, f, g)
		}
	})
}

// P12.3: the new function has the blocks of the trimmed one, and their ends
// lead as theirs do; with it in its place the module is proper.
func TestStaysProper(t *testing.T) {
	eachBuilt(2, func(what string, r *rand.Rand, m api.Module, f int, g api.Func) {
		trimmed, _ := graph.Trim(m.Funcs[f])
		if got, want := graph.Next(g), graph.Next(trimmed); !same(got, want) {
			t.Errorf("%s: blocks lead to %v, want %v", what, got, want)
		}
		for b, end := range trimmed.Blocks {
			if got := g.Blocks[b].Term; got.Kind != end.Term.Kind || !slices.Equal(got.To, end.Term.To) {
				t.Errorf("%s: block %d ends with %v, want %v", what, b, got, end.Term)
			}
		}
		if err := check.Module(sample.With(m, f, g)); err != nil {
			t.Errorf("%s: not proper: %v", what, err)
		}
	})
}

// P12.3: with the new function in its place, the module does the same, with
// MaxRegs more steps for each: that function, and whichever calls it.
func TestDoesTheSame(t *testing.T) {
	seen := sample.Tally{}
	eachBuilt(3, func(what string, r *rand.Rand, m api.Module, f int, g api.Func) {
		seen.Tries(t, what, run.Run, r.Intn, m, sample.With(m, f, g), api.MaxRegs)
	})
	seen.EnoughTries(t)
	seen.Enough(t, "more steps")
	seen.Never(t, "fewer steps")
}

// P12.3: so it does with all functions built, each of the module as it was.
func TestAllBuilt(t *testing.T) {
	r := rand.New(rand.NewSource(4))
	seen := sample.Tally{}
	for i := range 900 {
		m := sample.Plain(r.Intn)
		seen.Tries(t, fmt.Sprint("module ", i), run.Run, r.Intn, m, build.All(m), api.MaxRegs)
	}
	seen.Enough(t, "done", "trapped", "returned", "put out")
}

// where is what makes a register, as far ahead as where it is named.
type where struct{ block, at int }

// isAhead tells whether what is made at one place is ahead of another one.
func isAhead(dominates [][]bool, made, named where) bool {
	if made.block == named.block {
		return made.at < named.at
	}
	return dominates[made.block][named.block]
}

// makersOf are where each of a function's registers is made.
func makersOf(f api.Func) [][]where {
	makers := make([][]where, len(f.Regs))
	for r := range f.Params {
		makers[r] = []where{{0, atZero}}
	}
	for i, b := range f.Blocks {
		for _, p := range b.Phis {
			makers[p.Dst] = append(makers[p.Dst], where{i, atPhi})
		}
		for at, in := range b.Ins {
			if in.Dst != -1 {
				makers[in.Dst] = append(makers[in.Dst], where{i, at})
			}
		}
	}
	return makers
}

// P12.1, P12.3: each new register is made once, ahead of all that name it.
func TestMadeOnce(t *testing.T) {
	eachBuilt(5, func(what string, r *rand.Rand, m api.Module, f int, g api.Func) {
		makers, dominates, ahead := makersOf(g), dom.Dominates(g), check.Ahead(g)
		for reg, l := range makers {
			if len(l) != 1 {
				t.Fatalf("%s: register %d is made at %v", what, reg, l)
			}
		}
		name := func(at where, regs ...int) {
			for _, reg := range regs {
				if reg >= 0 && !isAhead(dominates, makers[reg][0], at) {
					t.Errorf("%s: register %d, made at %v, is named at %v", what, reg, makers[reg][0], at)
				}
			}
		}
		for i, b := range g.Blocks {
			for _, p := range b.Phis {
				for n, from := range ahead[i] {
					name(where{from, len(g.Blocks[from].Ins)}, p.Args[n])
				}
			}
			for at, in := range b.Ins {
				name(where{i, at}, in.Args...)
			}
			name(where{i, len(b.Ins)}, b.Term.Arg)
		}
	})
}

// P12.2, R2: what is handed in stays as it is.
func TestHandedInStays(t *testing.T) {
	eachPlain(6, func(what string, r *rand.Rand, m api.Module, f int) { build.Leaves(t, what, m, f) })
	sample.EachOdd(rand.New(rand.NewSource(7)).Intn, func(what string, m api.Module) { build.Leaves(t, what, m, 0) })
}

// P12.2, R2: what is told is new memory: written over it changes neither what
// was handed in nor what was told before, nor another list of the same answer.
func TestToldIsNew(t *testing.T) {
	eachBuilt(8, func(what string, r *rand.Rand, m api.Module, f int, g api.Func) { build.TellsAnew(t, what, m, f) })
}

// P12.2, R2: a function that needs nothing done is told in new memory, too,
// though its lists share one another's.
func TestSharedHandedIn(t *testing.T) {
	shared := []int{1, 1, 1, 1}
	f := function(2, api.TypeInt, shared[:2], block(jump(1), op(api.OpAdd, 0, shared[:2]...), store(1, 0)), block(giveBack(0)))
	f.Blocks[0].Term.To = shared[:1]
	f.Blocks[0].Ins[1].Args = shared[1:3]
	build.Builds(t, "shared", f, function(2, api.TypeInt, ints(3), block(jump(1), add(2, 1, 1), store(1, 1)), block(giveBack(2))))
	if !slices.Equal(shared, []int{1, 1, 1, 1}) {
		t.Error("handed in, now it is ", shared)
	}
}

// P12.2, R2: the place of a fault is new memory, too.
func TestSpotIsNew(t *testing.T) {
	bad := module(sample.Sum(), api.Func{})
	for range 2 {
		_, err := ssa.Build(bad, 0)
		s, ok := err.(*api.Spot)
		if !ok || s.At != 1 || s.Err != error(api.ErrLarge) {
			t.Fatal(err)
		}
		s.At, s.Err = 99, nil
	}
}

// P1, P12.1: any functions, plain or not, are built or refused.
func TestOdd(t *testing.T) {
	r := rand.New(rand.NewSource(9))
	seen := sample.Tally{}
	sample.EachOdd(r.Intn, func(what string, m api.Module) {
		if err := check.Plain(m); err != nil {
			build.Refuses(t, what, m, r.Intn(4)-1, err)
			seen.Add("refused", true)
		}
	})
	seen.Enough(t, "refused")
}
