package lower_test

import (
	"fmt"
	"math/rand"
	"slices"
	"testing"

	"fettle/api"
	"fettle/check"
	"fettle/lower"
	"fettle/proper"
	"fettle/run"
	"fettle/sample"
	"fettle/ssa"
)

// What follows up to the first test tells the chapter's answers once more, as
// its words stand.

// movesOf are what is done for moves, and of which registers the new ones are
// copies.
func movesOf(l pairs, next int) (done pairs, copied []int) {
	left := slices.Clone(l)
	for len(left) > 0 {
		free := -1
		for i := len(left) - 1; i >= 0; i-- {
			others := slices.Delete(slices.Clone(left), i, i+1)
			if !slices.ContainsFunc(others, func(p [2]int) bool { return p[1] == left[i][0] }) {
				free = i
			}
		}
		if free >= 0 {
			done, left = append(done, left[free]), slices.Delete(left, free, free+1)
			continue
		}
		from := left[0][1]
		done, copied = append(done, [2]int{next, from}), append(copied, from)
		for i := range left {
			if left[i][1] == from {
				left[i][1] = next
			}
		}
		next++
	}
	return done, copied
}

// areMoves tells whether moves are such as they may be.
func areMoves(l pairs, next int) bool {
	for i, p := range l {
		for _, q := range l[i+1:] {
			if p[0] == q[0] {
				return false
			}
		}
		for _, n := range p {
			if n < 0 || n >= next {
				return false
			}
		}
	}
	return true
}

// argFor is a phi's Arg that stands for a block from which an edge leads to it.
func argFor(f api.Func, p api.Phi, from, to int) int {
	n := 0
	for _, b := range f.Blocks[:from] {
		if slices.Contains(b.Term.To, to) {
			n++
		}
	}
	return p.Args[n]
}

// wantOf is what a function of the form is built to, whatever the limits.
func wantOf(f api.Func) api.Func {
	g := sample.Copy(f)
	splitFrom := map[int]int{}
	for b := range f.Blocks {
		for i, to := range f.Blocks[b].Term.To {
			if len(f.Blocks[b].Term.To) == 2 && len(f.Blocks[to].Phis) > 0 {
				splitFrom[len(g.Blocks)] = b
				g.Blocks[b].Term.To[i] = len(g.Blocks)
				g.Blocks = append(g.Blocks, block(jump(to)))
			}
		}
	}
	for b := range g.Blocks {
		from := b
		if was, is := splitFrom[b]; is {
			from = was
		}
		var l pairs
		for _, to := range g.Blocks[b].Term.To {
			for _, p := range g.Blocks[to].Phis {
				if arg := argFor(f, p, from, to); arg != p.Dst {
					l = append(l, [2]int{p.Dst, arg})
				}
			}
		}
		done, copied := movesOf(l, len(g.Regs))
		for _, r := range copied {
			g.Regs = append(g.Regs, g.Regs[r])
		}
		for _, p := range done {
			g.Blocks[b].Ins = append(g.Blocks[b].Ins, dup(p[0], p[1]))
		}
	}
	for b := range g.Blocks {
		g.Blocks[b].Phis = nil
	}
	return g
}

// isTooLarge tells whether a function is above a limit.
func isTooLarge(f api.Func) bool {
	items := 0
	for _, b := range f.Blocks {
		items += len(b.Ins) + 1
	}
	return len(f.Blocks) > 64 || items > 256 || len(f.Regs) > 256
}

// anyMoves are moves of so many registers to as many others, in any order; most
// often of few of them to few.
func anyMoves(r *rand.Rand, regs int) pairs {
	var l pairs
	for _, to := range r.Perm(regs)[:r.Intn(regs+1)] {
		l = append(l, [2]int{to, r.Intn(1 + r.Intn(regs))})
	}
	if r.Intn(2) == 0 { // then there are rings
		for i, n := range r.Perm(len(l)) {
			if r.Intn(6) > 0 {
				l[i][1] = l[n][0]
			}
		}
	}
	return l
}

// atOnce holds that what is told of moves, done one by one, does what all of
// them do at once.
func atOnce(t *testing.T, l pairs, next int) {
	t.Helper()
	done, copied, err := lower.Moves(l, next)
	if err != nil {
		t.Fatal(l, err)
	}
	now := make([]int, next+len(copied)) // register r holds r at first
	for r := range now {
		now[r] = r
	}
	for _, p := range done {
		now[p[0]] = now[p[1]]
	}
	want := make([]int, next)
	for r := range want {
		want[r] = r
	}
	for _, p := range l {
		want[p[0]] = p[1]
	}
	if !slices.Equal(now[:next], want) {
		t.Errorf("%v: %v: come to %v, want %v", l, done, now, want)
	}
	for i, r := range copied {
		if !slices.Contains(done, [2]int{next + i, r}) {
			t.Errorf("%v: %v: %d is no copy of %d", l, done, next+i, r)
		}
	}
}

// P14.2, P14.4: any moves.
func TestAnyMoves(t *testing.T) {
	r := rand.New(rand.NewSource(1))
	seen := sample.Tally{}
	for range 30000 {
		regs := 1 + r.Intn(14)
		l, next := anyMoves(r, regs), regs+r.Intn(2)*r.Intn(5)
		want, copied := movesOf(l, next)
		moves(t, "any", l, next, want, copied...)
		atOnce(t, l, next)
		seen.Add("no ring", len(copied) == 0)
		seen.Add("a ring", len(copied) == 1)
		seen.Add("many rings", len(copied) > 2)
		seen.Add("another order", len(copied) == 0 && !slices.Equal(l, want))
		seen.Add("to itself", slices.ContainsFunc(l, func(p [2]int) bool { return p[0] == p[1] }))
	}
	seen.Enough(t, "no ring", "a ring", "many rings", "another order", "to itself")
}

// eachMoves goes through all lists of moves of so many registers to these.
func eachMoves(regs int, l pairs, do func(l pairs)) {
	do(l)
	for to := range regs {
		if slices.ContainsFunc(l, func(p [2]int) bool { return p[0] == to }) {
			continue
		}
		for from := range regs {
			eachMoves(regs, append(slices.Clone(l), [2]int{to, from}), do)
		}
	}
}

// P14.2, P14.4: all moves of four registers.
func TestAllMovesOfFour(t *testing.T) {
	eachMoves(4, nil, func(l pairs) {
		want, copied := movesOf(l, 4)
		moves(t, "all", l, 4, want, copied...)
		atOnce(t, l, 4)
	})
}

// P1, P14.2: all of two numbers of few, with any next: right ones and wrong ones.
func TestAllNumbers(t *testing.T) {
	seen := sample.Tally{}
	for n := range 5 * 5 * 5 * 5 * 6 {
		pick := func(many int) int {
			picked := n % many
			n /= many
			return picked - 1
		}
		l := pairs{{pick(5), pick(5)}, {pick(5), pick(5)}}
		next := pick(6)
		seen.Add("right", areMoves(l, next))
		seen.Add("wrong", !areMoves(l, next))
		if !areMoves(l, next) {
			noMoves(t, "wrong", l, next)
			continue
		}
		want, copied := movesOf(l, next)
		moves(t, "right", l, next, want, copied...)
	}
	seen.Enough(t, "right", "wrong")
}

// P14.3, R2: moves that are handed in stay as they are; what is told is new
// memory, and its lists share none.
func TestMovesHandedInStay(t *testing.T) {
	r := rand.New(rand.NewSource(2))
	for range 3000 {
		regs := 1 + r.Intn(14)
		l := append(make(pairs, 0, 20), anyMoves(r, regs)...)
		was := slices.Clone(l[:20])
		before, copiedBefore, _ := lower.Moves(l, regs)
		want, copied := movesOf(l, regs)
		done, from, _ := lower.Moves(l, regs)
		clear(done[:cap(done)])
		clear(from[:cap(from)])
		if !slices.Equal(l[:20], was) {
			t.Errorf("handed in %v, now it is %v", was, l[:20])
		}
		if !slices.Equal(before, want) || !slices.Equal(copiedBefore, copied) {
			t.Errorf("%v: told %v, %v, now it is %v, %v", l, want, copied, before, copiedBefore)
		}
		moves(t, "once more", l, regs, want, copied...)
	}
}

// eachOfForm goes through functions of the form.
func eachOfForm(seed int64, do func(what string, r *rand.Rand, m api.Module, f int)) {
	r := rand.New(rand.NewSource(seed))
	sample.EachOfForm(r.Intn, ssa.Build, proper.Form, func(what string, m api.Module, f int) { do(what, r, m, f) })
}

// tally counts what a function comes to.
func tally(seen sample.Tally, f, want api.Func) {
	seen.Add("without phis", !slices.ContainsFunc(f.Blocks, func(b api.Block) bool { return len(b.Phis) > 0 }))
	seen.Add("new blocks", len(want.Blocks) > len(f.Blocks)+2)
	seen.Add("a ring", len(want.Regs) == len(f.Regs)+1)
	seen.Add("many rings", len(want.Regs) > len(f.Regs)+1)
	seen.Add("a bool in a ring", slices.Contains(want.Regs[len(f.Regs):], api.TypeBool))
	for b := range f.Blocks {
		seen.Add("both split", len(want.Blocks[b].Term.To) == 2 && min(want.Blocks[b].Term.To[0], want.Blocks[b].Term.To[1]) >= len(f.Blocks))
		seen.Add("many phis", len(f.Blocks[b].Phis) > 3)
		for _, p := range f.Blocks[b].Phis {
			seen.Add("to itself", slices.Contains(p.Args, p.Dst))
			seen.Add("many Args", len(p.Args) > 2)
		}
	}
}

// P14.1: what any functions of the form are built to.
func TestAny(t *testing.T) {
	seen := sample.Tally{}
	for seed := range 4 {
		eachOfForm(int64(seed), func(what string, r *rand.Rand, m api.Module, f int) {
			want := wantOf(m.Funcs[f])
			if isTooLarge(want) {
				build.Refuses(t, what, m, f, api.ErrLarge)
				seen.Add("too large", true)
				return
			}
			build.Is(t, what, m, f, want)
			tally(seen, m.Funcs[f], want)
		})
	}
	seen.Enough(t, "too large", "without phis", "new blocks", "a ring", "many rings", "a bool in a ring", "both split", "many phis", "to itself", "many Args")
}

// P14.4: with the new function in its place, the module is plain, if it was but
// for it, and does the same, with MaxRegs more steps for each: that function,
// and whichever calls it.
func TestStays(t *testing.T) {
	seen := sample.Tally{}
	eachOfForm(4, func(what string, r *rand.Rand, m api.Module, f int) {
		g, err := build(m, f)
		if err != nil {
			return
		}
		n := sample.With(m, f, g)
		if err := check.Plain(n); err != nil {
			t.Errorf("%s: not plain: %v", what, err)
		}
		before := seen["done"]
		seen.Tries(t, what, run.Run, r.Intn, m, n, api.MaxRegs)
		seen.Add("a ring", len(g.Regs) > len(m.Funcs[f].Regs) && seen["done"] > before)
	})
	seen.EnoughTries(t)
	seen.Enough(t, "a ring", "more steps")
	seen.Never(t, "fewer steps")
}

// P14.4: so it does with all functions built, of a module that has phis in all.
func TestAllBuilt(t *testing.T) {
	r := rand.New(rand.NewSource(5))
	seen := sample.Tally{}
	for i := range 900 {
		was := sample.Builder(ssa.Build).All(sample.Plain(r.Intn))
		seen.Tries(t, fmt.Sprint("module ", i), run.Run, r.Intn, was, build.All(was), api.MaxRegs)
	}
	seen.Enough(t, "done", "trapped", "returned", "put out")
}

// threeRound is a function of three ints, that puts three out every time round,
// five times, with these as the Args that come from there; by a block more, or
// by the same one.
func threeRound(by bool, args [3]int) api.Func {
	const at, one, last, count, next, more = 6, 7, 8, 9, 10, 11
	f := function(3, api.TypeInt, []int{1, 1, 1, 1, 1, 1, 1, 1, 1, 1, 1, 2},
		block(jump(1), constant(at, 0), constant(one, 1), constant(last, 5)),
		withPhis(block(branch(more, 1, 2), out(3), out(4), out(5), load(count, at), add(next, count, one), store(at, next), op(api.OpLt, more, next, last)),
			phi(3, 0, args[0]), phi(4, 1, args[1]), phi(5, 2, args[2])),
		block(giveBack(4), out(5), out(3)))
	if by {
		f.Blocks[1].Term.To[0] = 3
		f.Blocks = append(f.Blocks, block(jump(1)))
	}
	return f
}

// P14.1, P14.4: all that three phis may pass on round a loop: to one another,
// from ahead of it, what was made there.
func TestAllRound(t *testing.T) {
	from := []int{3, 4, 5, 0, 10}
	for n := range 2 * 5 * 5 * 5 {
		args := [3]int{from[n/2%5], from[n/10%5], from[n/50]}
		f := threeRound(n%2 == 0, args)
		what, want := fmt.Sprint("function ", n, ", Args ", args), wantOf(f)
		build.Builds(t, what, f, want)
		if _, o := sample.DoesTheSame(t, what, run.Run, module(f), module(want), 0, []int64{11, 22, 33}, api.MaxRegs); !o.Done || len(o.Out) != 17 {
			t.Errorf("%s: %v", what, o)
		}
	}
}

// P14.3, R2: what is handed in stays as it is.
func TestHandedInStays(t *testing.T) {
	eachOfForm(6, func(what string, r *rand.Rand, m api.Module, f int) { build.Leaves(t, what, m, f) })
	sample.EachOdd(rand.New(rand.NewSource(7)).Intn, func(what string, m api.Module) { build.Leaves(t, what, m, 0) })
}

// P14.3, R2: what is told is new memory: written over it changes neither what
// was handed in nor what was told before, nor another list of the same answer.
func TestToldIsNew(t *testing.T) {
	eachOfForm(8, func(what string, r *rand.Rand, m api.Module, f int) {
		if _, err := build(m, f); err == nil {
			build.TellsAnew(t, what, m, f)
		}
	})
	build.TellsAnew(t, "without phis", module(straight(1, 3, 1, constant(1, 4), add(2, 0, 1))), 0)
}

// P1, P14.1: any functions, of the form or not, are built or refused.
func TestOdd(t *testing.T) {
	r := rand.New(rand.NewSource(9))
	seen := sample.Tally{}
	sample.EachOdd(r.Intn, func(what string, m api.Module) {
		f := r.Intn(4) - 1
		if err := proper.Form(m, f); err != nil {
			build.Refuses(t, what, m, f, err)
			seen.Add("refused", true)
		}
	})
	for i := range 1500 {
		m := sample.Any(r.Intn)
		for f := range m.Funcs {
			if err := proper.Form(m, f); err != nil {
				build.Refuses(t, fmt.Sprint("proper module ", i), m, f, err)
				seen.Add("not of the form", true)
			}
		}
	}
	seen.Enough(t, "refused", "not of the form")
}
