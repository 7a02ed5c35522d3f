package proper_test

import (
	"errors"
	"fmt"
	"math/rand"
	"slices"
	"testing"

	"fettle/api"
	"fettle/check"
	"fettle/proper"
	"fettle/sample"
	"fettle/ssa"
)

// What follows up to the first test tells the chapter's answers once more, by
// the ways from block 0: a register is ahead of a place, if none of them comes
// there without coming by what makes it.

// makersOf are by what each register is made, as the words stand.
func makersOf(f api.Func) []api.Maker {
	var makers []api.Maker
	for r := range f.Regs {
		l := allMakers(f, r)
		if r < f.Params || len(l) == 0 {
			l = []api.Maker{none}
		}
		makers = append(makers, l[0])
	}
	return makers
}

// allMakers are all that have a register as Dst.
func allMakers(f api.Func, r int) []api.Maker {
	var l []api.Maker
	for i, b := range f.Blocks {
		for range slices.DeleteFunc(slices.Clone(b.Phis), func(p api.Phi) bool { return p.Dst != r }) {
			l = append(l, by(i, atPhi))
		}
		for at, in := range b.Ins {
			if in.Dst == r {
				l = append(l, by(i, at))
			}
		}
	}
	return l
}

// comesTo tells whether a way comes to a block's so manieth instruction, and
// by none of these places.
func comesTo(f api.Func, b, at int, but []api.Maker) bool {
	entered := make([]bool, len(f.Blocks))
	open := []int{0}
	for len(open) > 0 {
		in := open[0]
		open = open[1:]
		if entered[in] {
			continue
		}
		entered[in] = true
		within := func(before int) bool {
			return !slices.ContainsFunc(but, func(m api.Maker) bool { return m.Block == in && m.At < before })
		}
		if in == b && within(at) {
			return true
		}
		if within(len(f.Blocks[in].Ins)) {
			open = append(open, f.Blocks[in].Term.To...)
		}
	}
	return false
}

// namersOf are the places that a register of a proper function has to be ahead
// of.
func namersOf(f api.Func, r int) []api.Maker {
	var l []api.Maker
	for i, b := range f.Blocks {
		for at, in := range b.Ins {
			if slices.Contains(in.Args, r) {
				l = append(l, by(i, at))
			}
		}
		if b.Term.Arg == r {
			l = append(l, by(i, len(b.Ins)))
		}
		for _, p := range b.Phis {
			n := 0
			for from, ahead := range f.Blocks {
				if slices.Contains(ahead.Term.To, i) {
					if p.Args[n] == r {
						l = append(l, by(from, len(ahead.Ins)))
					}
					n++
				}
			}
		}
	}
	return l
}

// wantOf is what is told of the form of a module's f-th function.
func wantOf(m api.Module, n int) error {
	if err := check.Module(m); err != nil {
		return err
	}
	if n < 0 || n >= len(m.Funcs) {
		return api.ErrArg
	}
	f := m.Funcs[n]
	for b := range f.Blocks {
		if !comesTo(f, b, 0, nil) {
			return api.ErrShape
		}
	}
	for r := range f.Regs {
		if made := len(allMakers(f, r)); made > 1 || r < f.Params && made > 0 {
			return at(r, api.ErrState)
		}
	}
	for r := f.Params; r < len(f.Regs); r++ {
		makers := allMakers(f, r)
		for _, p := range namersOf(f, r) {
			if comesTo(f, p.Block, p.At, makers) {
				return at(r, api.ErrNone)
			}
		}
	}
	return nil
}

// eachChanged goes through modules of which a function was built by layer 12,
// and then changed in up to three places.
func eachChanged(seed int64, do func(what string, r *rand.Rand, m api.Module, f int)) {
	eachBuilt(seed, func(what string, r *rand.Rand, m api.Module, f int) {
		for changes := range 4 {
			g := sample.Copy(m.Funcs[f])
			for range changes {
				sample.Change(r.Intn, g)
			}
			do(fmt.Sprint(what, ", changes: ", changes), r, sample.With(m, f, g), f)
		}
	})
}

// count counts what was told.
func count(seen sample.Tally, m api.Module, f int, err error) {
	var s *api.Spot
	seen.Add("of the form", err == nil)
	seen.Add("not proper", check.Module(m) != nil)
	seen.Add("not reached", err == error(api.ErrShape))
	if check.Module(m) != nil || !errors.As(err, &s) {
		return
	}
	seen.Add("made again", s.Err == error(api.ErrState) && s.At >= m.Funcs[f].Params)
	seen.Add("a parameter made", s.Err == error(api.ErrState) && s.At < m.Funcs[f].Params)
	if s.Err != error(api.ErrNone) {
		return
	}
	makers := allMakers(m.Funcs[f], s.At)
	seen.Add("not made", len(makers) == 0)
	for _, p := range namersOf(m.Funcs[f], s.At) {
		seen.Add("in the same block", len(makers) > 0 && makers[0].Block == p.Block)
		seen.Add("in another block", len(makers) > 0 && makers[0].Block != p.Block)
	}
}

// P13.1: what is told of any proper functions, most of them nearly of the form.
func TestAny(t *testing.T) {
	seen := sample.Tally{}
	eachChanged(1, func(what string, r *rand.Rand, m api.Module, f int) {
		want := wantOf(m, f)
		formIs(t, what, m, f, want)
		count(seen, m, f, want)
		far := r.Intn(2*len(m.Funcs)) - len(m.Funcs)/2
		formIs(t, what+", any one", m, far, wantOf(m, far))
	})
	seen.Enough(t, "of the form", "not proper", "not reached", "made again", "a parameter made", "not made", "in the same block", "in another block")
}

// P13.1: all of any proper modules, with phis.
func TestAnyProper(t *testing.T) {
	r := rand.New(rand.NewSource(2))
	seen := sample.Tally{}
	for i := range 1500 {
		m := sample.Any(r.Intn)
		for f := range m.Funcs {
			want := wantOf(m, f)
			formIs(t, fmt.Sprint("module ", i), m, f, want)
			count(seen, m, f, want)
		}
	}
	seen.Enough(t, "not reached", "made again", "a parameter made")
}

// P1, P13.1: any functions are told of, proper or not.
func TestOdd(t *testing.T) {
	seen := sample.Tally{}
	eachOdd(3, func(what string, r *rand.Rand, m api.Module) {
		f := r.Intn(4) - 1
		formIs(t, what, m, f, wantOf(m, f))
		seen.Add("not proper", check.Module(m) != nil)
	})
	seen.Enough(t, "not proper")
}

// ended is an end that leads to these, and else returns a register.
func ended(to []int) api.Term {
	return []api.Term{giveBack(2), jump(to...), branch(0, to...)}[len(to)]
}

// eachSmall goes through all functions of so many blocks, of a bool and an int
// as parameters, and two ints, which lead to any of these, and do any of these.
func eachSmall(blocks int, tos [][]int, does [][]api.Instr, do func(what string, f api.Func)) {
	ways, all := len(tos)*len(does), 1
	for range blocks {
		all *= ways
	}
	for n := range all {
		what := fmt.Sprint("function ", n)
		f := function(2, api.TypeInt, []int{2, 1, 1, 1})
		for range blocks {
			f.Blocks = append(f.Blocks, block(ended(tos[n%len(tos)]), does[n%ways/len(tos)]...))
			n /= ways
		}
		do(what, f)
	}
}

// P13.1: all functions of four blocks that make, name or pass on a register.
func TestAllOfFour(t *testing.T) {
	seen := sample.Tally{}
	eachSmall(4, [][]int{nil, {1}, {2}, {3}, {1, 2}, {3, 1}, {2, 3}}, [][]api.Instr{nil, {constant(2, 5)}, {out(2)}}, func(what string, f api.Func) {
		if m := module(f); !t.Failed() {
			want := wantOf(m, 0)
			formIs(t, what, m, 0, want)
			count(seen, m, 0, want)
		}
	})
	seen.Enough(t, "of the form", "not reached", "made again", "not made", "in another block")
}

// P13.1: all functions of three blocks whose second one has a phi, if any leads
// to it, of all combinations of Args.
func TestAllPhisOfThree(t *testing.T) {
	seen := sample.Tally{}
	does := [][]api.Instr{nil, {constant(3, 5)}, {add(3, 2, 2)}}
	eachSmall(3, [][]int{nil, {1}, {2}, {1, 2}}, does, func(what string, f api.Func) {
		ahead, all := len(check.Ahead(f)[1]), 1
		for range ahead {
			all *= 3
		}
		for n := range all {
			g, p := sample.Copy(f), phi(2)
			for range ahead {
				p.Args = append(p.Args, 1+n%3)
				n /= 3
			}
			g.Blocks[1].Phis = []api.Phi{p}
			m := module(g)
			want := wantOf(m, 0)
			formIs(t, fmt.Sprint(what, ", phi of ", p.Args), m, 0, want)
			count(seen, m, 0, want)
		}
	})
	seen.Enough(t, "of the form", "not reached", "made again", "in the same block", "in another block")
}

// P13.2: by what the registers of any functions are made.
func TestAnyMakers(t *testing.T) {
	seen := sample.Tally{}
	try := func(what string, f api.Func) {
		want := makersOf(f)
		madeBy(t, what, f, want...)
		for r, m := range want {
			all := allMakers(f, r)
			seen.Add("a parameter", r < f.Params && len(all) == 0)
			seen.Add("a parameter made", r < f.Params && len(all) > 0)
			seen.Add("not made", r >= f.Params && m == none)
			seen.Add("a phi", m.At == atPhi)
			seen.Add("an instruction", m.At >= 0)
			seen.Add("an instruction, then a phi", m.At >= 0 && all[len(all)-1].At == atPhi)
			seen.Add("a phi, then an instruction", m.At == atPhi && all[len(all)-1].At >= 0)
		}
	}
	eachOdd(4, func(what string, r *rand.Rand, m api.Module) { try(what, m.Funcs[0]) })
	eachChanged(5, func(what string, r *rand.Rand, m api.Module, f int) { try(what, m.Funcs[f]) })
	seen.Enough(t, "a parameter", "a parameter made", "not made", "a phi", "an instruction", "an instruction, then a phi", "a phi, then an instruction")
}

// P13.4: what layer 12 builds is of that form, each function of its module, and
// all of them in their places.
func TestBuilt(t *testing.T) {
	seen := sample.Tally{}
	eachBuilt(6, func(what string, r *rand.Rand, m api.Module, f int) {
		formIs(t, what, m, f, nil)
		g := m.Funcs[f]
		seen.Add("with phis", slices.ContainsFunc(g.Blocks, func(b api.Block) bool { return len(b.Phis) > 0 }))
		seen.Add("of many blocks", len(g.Blocks) > 20)
	})
	seen.Enough(t, "with phis", "of many blocks")
	r := rand.New(rand.NewSource(7))
	for i := range 300 {
		m := sample.Plain(r.Intn)
		all, built := m, make([]bool, len(m.Funcs))
		for f := range m.Funcs {
			if g, err := ssa.Build(m, f); err == nil {
				all, built[f] = sample.With(all, f, g), true
			}
		}
		for f := range m.Funcs {
			if built[f] {
				formIs(t, fmt.Sprint("all of module ", i), all, f, nil)
			}
		}
	}
}

// P13.4: so is what all small functions are built to.
func TestSmallBuilt(t *testing.T) {
	eachSmall(3, [][]int{nil, {1}, {2}, {1, 2}}, [][]api.Instr{nil, {constant(2, 5)}, {add(2, 3, 2)}, {add(3, 2, 1)}}, func(what string, f api.Func) {
		g, err := ssa.Build(module(f), 0)
		if err != nil && check.Module(module(f)) == nil {
			t.Errorf("%s: %v", what, err)
		}
		if err == nil {
			is(t, what, g)
		}
	})
}

// P13.3, R2: what is handed in stays as it is.
func TestHandedInStays(t *testing.T) {
	try := func(what string, m api.Module, f int) {
		was := sample.CopyModule(m)
		proper.Form(m, f)
		unchanged(t, what+", Form", m, was)
		proper.Makers(m.Funcs[f])
		unchanged(t, what+", Makers", m, was)
	}
	eachChanged(8, func(what string, r *rand.Rand, m api.Module, f int) { try(what, m, f) })
	eachOdd(9, func(what string, r *rand.Rand, m api.Module) { try(what, m, 0) })
}

// P13.3, R2: what is told is new memory: written over it changes neither what
// was handed in nor what was told before.
func TestToldIsNew(t *testing.T) {
	eachOdd(10, func(what string, r *rand.Rand, m api.Module) {
		was, f := sample.CopyModule(m), m.Funcs[0]
		before := proper.Makers(f)
		told, after := slices.Clone(before), proper.Makers(f)
		clear(after[:cap(after)])
		unchanged(t, what, m, was)
		if !slices.Equal(before, told) {
			t.Errorf("%s: told %v, now it is %v", what, told, before)
		}
		madeBy(t, what+", once more", f, told...)
	})
}
