package calls_test

import (
	"fmt"
	"math/rand"
	"runtime/debug"
	"slices"
	"testing"

	"fettle/api"
	"fettle/calls"
	"fettle/check"
	"fettle/sample"
)

// What follows up to the first test tells the chapter's answers once more, as
// its words stand, function by function.

// callsOf are those that each function calls.
func callsOf(m api.Module) [][]int {
	called := make([][]int, len(m.Funcs))
	for f := range m.Funcs {
		for fun := range m.Funcs {
			if names(m.Funcs[f], fun) {
				called[f] = append(called[f], fun)
			}
		}
	}
	return called
}

// names tells whether a call in a function names another one.
func names(f api.Func, fun int) bool {
	return slices.ContainsFunc(f.Blocks, func(b api.Block) bool {
		return slices.ContainsFunc(b.Ins, func(in api.Instr) bool { return in.Op == api.OpCall && in.Fun == fun })
	})
}

// comesTo is which functions can be come to from a function by calls.
func comesTo(called [][]int, from int) []bool {
	come := make([]bool, len(called))
	open := slices.Clone(called[from])
	for len(open) > 0 {
		f := open[0]
		open = open[1:]
		if !come[f] {
			come[f] = true
			open = append(open, called[f]...)
		}
	}
	return come
}

// ringOf is a function's ring.
func ringOf(come [][]bool, f int) []int {
	var l []int
	for g := range come {
		if g == f || come[f][g] && come[g][f] {
			l = append(l, g)
		}
	}
	return l
}

// waveOf is a ring's wave.
func waveOf(called [][]int, come [][]bool, ring []int, known map[int]int) int {
	if w, is := known[ring[0]]; is {
		return w
	}
	w := 0
	for _, f := range ring {
		for _, g := range called[f] {
			if !slices.Contains(ring, g) {
				w = max(w, waveOf(called, come, ringOf(come, g), known)+1)
			}
		}
	}
	known[ring[0]] = w
	return w
}

// wantOf are all of a module's answers.
func wantOf(m api.Module) answers {
	want := answers{calls: callsOf(m)}
	var come [][]bool
	for f := range m.Funcs {
		come = append(come, comesTo(want.calls, f))
	}
	known := map[int]int{}
	want.waves = make([][][]int, len(m.Funcs))
	most := 0
	for f := range m.Funcs {
		ring := ringOf(come, f)
		if ring[0] != f {
			continue
		}
		want.rings = append(want.rings, ring)
		w := waveOf(want.calls, come, ring, known)
		want.waves[w] = append(want.waves[w], ring)
		most = max(most, w+1)
	}
	want.waves = want.waves[:most]
	return want
}

// P1, P9.1, P9.2: what is answered of any modules.
func TestAny(t *testing.T) {
	seen := sample.Tally{}
	each(1, func(what string, m api.Module) {
		want := wantOf(m)
		is(t, what, m, want)
		seen.Add("no functions", len(m.Funcs) == 0)
		seen.Add("all alone", len(m.Funcs) > 3 && len(want.rings) == len(m.Funcs))
		seen.Add("five waves", len(want.waves) > 4)
		seen.Add("a function that calls four", slices.ContainsFunc(want.calls, func(l []int) bool { return len(l) > 3 }))
		seen.Add("proper", len(m.Funcs) > 0 && check.Module(m) == nil)
		seen.Add("not proper", check.Module(m) != nil)
		apart := 0
		for _, ring := range want.rings {
			if len(ring) > 1 {
				apart++
			}
			seen.Add("a ring of four", len(ring) > 3)
			seen.Add("not side by side", ring[len(ring)-1]-ring[0] >= len(ring))
		}
		seen.Add("two rings of two", apart > 1)
	})
	seen.Enough(t, "no functions", "all alone", "five waves", "a function that calls four",
		"proper", "not proper", "a ring of four", "not side by side", "two rings of two")
}

// P9.1, P9.2: all modules of four functions.
func TestAllOfFour(t *testing.T) {
	const funcs = 4
	for n := range 1 << (funcs * funcs) {
		lists := make([][]int, funcs)
		for i := range funcs * funcs {
			if n>>i&1 == 1 {
				lists[i/funcs] = append(lists[i/funcs], i%funcs)
			}
		}
		m := module(lists...)
		is(t, fmt.Sprint(lists), m, wantOf(m))
		if t.Failed() {
			return
		}
	}
}

// P9.4: each function is in one ring, each ring in one wave.
func TestOneEach(t *testing.T) {
	each(2, func(what string, m api.Module) {
		rings := calls.Rings(m)
		all := slices.Concat(rings...)
		slices.Sort(all)
		for f := range m.Funcs {
			if f >= len(all) || all[f] != f {
				t.Errorf("%s: not each of %d functions is in one ring: %v", what, len(m.Funcs), rings)
				break
			}
		}
		waves := slices.Concat(calls.Waves(m)...)
		slices.SortFunc(waves, slices.Compare[[]int])
		if len(all) != len(m.Funcs) || !same(waves, rings) {
			t.Errorf("%s: rings %v, of waves %v", what, rings, waves)
		}
	})
}

// P9.4: a function of a wave calls none of a later one, and of its own just
// those of its ring; and P9.2: each wave but the first calls the one ahead.
func TestWavesFollow(t *testing.T) {
	seen := sample.Tally{}
	each(3, func(what string, m api.Module) {
		called, waves := calls.Calls(m), calls.Waves(m)
		wave := map[int]int{}
		for w, rings := range waves {
			for _, f := range slices.Concat(rings...) {
				wave[f] = w
			}
		}
		for w, rings := range waves {
			for _, ring := range rings {
				near := w == 0
				for _, f := range ring {
					for _, g := range called[f] {
						if wave[g] > w || wave[g] == w && !slices.Contains(ring, g) {
							t.Errorf("%s: %d calls %d: %v", what, f, g, waves)
						}
						near = near || wave[g] == w-1
						seen.Add("of its ring", wave[g] == w)
						seen.Add("far below", wave[g] < w-1)
					}
				}
				if !near {
					t.Errorf("%s: ring %v of wave %d calls none of the one ahead: %v", what, ring, w, waves)
				}
			}
		}
	})
	seen.Enough(t, "of its ring", "far below")
}

// P9.3, R2: what is handed in stays as it is.
func TestHandedInStays(t *testing.T) {
	each(4, func(what string, m api.Module) {
		was := sample.CopyModule(m)
		calls.Calls(m)
		unchanged(t, what+", Calls", m, was)
		calls.Rings(m)
		unchanged(t, what+", Rings", m, was)
		calls.Waves(m)
		unchanged(t, what+", Waves", m, was)
	})
}

// fill writes over a list, and behind it as far as its memory goes.
func fill(l []int) {
	l = l[:cap(l)]
	for i := range l {
		l[i] = -99
	}
}

// fillAll writes over some lists, and behind them.
func fillAll(lists [][]int) {
	lists = lists[:cap(lists)]
	for i, l := range lists {
		fill(l)
		lists[i] = []int{-99}
	}
}

// P9.3, R2: what is told is new memory: written over it changes neither what
// was handed in nor what was told before; nor does the other way round.
func TestToldIsNew(t *testing.T) {
	each(5, func(what string, m api.Module) {
		was := sample.CopyModule(m)
		before := answersOf(m)
		told := fmt.Sprint(before)
		after := answersOf(m)
		fillAll(after.calls)
		fillAll(after.rings)
		for _, rings := range after.waves {
			fillAll(rings)
		}
		unchanged(t, what, m, was)
		for _, f := range m.Funcs {
			for _, b := range f.Blocks {
				clear(b.Ins)
			}
		}
		if now := fmt.Sprint(before); now != told {
			t.Errorf("%s: told\n%s, now it is\n%s", what, told, now)
		}
	})
}

// P9.3, R2: no two lists of one answer share any.
func TestListsApart(t *testing.T) {
	each(6, func(what string, m api.Module) {
		apart(t, what+", Calls", calls.Calls(m))
		apart(t, what+", Rings", calls.Rings(m))
		apart(t, what+", Waves", slices.Concat(calls.Waves(m)...))
		waves := calls.Waves(m)
		for w, rings := range waves {
			others := slices.Delete(slices.Clone(waves), w, w+1)
			was := fmt.Sprint(others)
			clear(rings[:cap(rings)])
			if fmt.Sprint(others) != was {
				t.Errorf("%s: wave %d shares with another one", what, w)
			}
		}
	})
}

// apart holds that what is written over one list isn't seen in another one.
func apart(t *testing.T, what string, lists [][]int) {
	t.Helper()
	for i, l := range lists {
		others := slices.Delete(slices.Clone(lists), i, i+1)
		was := fmt.Sprint(others)
		fill(l)
		if fmt.Sprint(others) != was {
			t.Errorf("%s: list %d shares with another one", what, i)
		}
	}
}

// manyFuncs is far above the limit: a module that isn't proper may have however
// many.
const manyFuncs = 1 << 18

// many is a module of many functions that call these.
func many(lists func(f int) []int) api.Module {
	m := api.Module{Funcs: make([]api.Func, manyFuncs)}
	for f := range m.Funcs {
		m.Funcs[f] = calling(lists(f)...)
	}
	return m
}

// manyAre holds how many rings and waves such a module has, and of how many
// functions and rings the greatest ones are.
func manyAre(t *testing.T, what string, m api.Module, rings, inRing, waves, inWave int) {
	t.Helper()
	r, w := calls.Rings(m), calls.Waves(m)
	mostRing, mostWave := 0, 0
	for _, l := range r {
		mostRing = max(mostRing, len(l))
	}
	for _, l := range w {
		mostWave = max(mostWave, len(l))
	}
	if len(r) != rings || mostRing != inRing || len(w) != waves || mostWave != inWave {
		t.Errorf("%s: %d rings of %d at most, %d waves of %d at most, want %d of %d, %d of %d",
			what, len(r), mostRing, len(w), mostWave, rings, inRing, waves, inWave)
	}
	if !slices.IsSortedFunc(r, func(a, b []int) int { return a[0] - b[0] }) || !slices.IsSorted(r[len(r)-1]) {
		t.Errorf("%s: rings in another order", what)
	}
}

// P1, P9.1, P9.2: however many functions, however deep they call one another,
// are no harm, however little Go's stack holds.
func TestManyFuncs(t *testing.T) {
	defer debug.SetMaxStack(debug.SetMaxStack(8 << 20))
	const all, last = manyFuncs, manyFuncs - 1
	manyAre(t, "none", many(func(f int) []int { return nil }), all, 1, 1, all)
	manyAre(t, "itself", many(func(f int) []int { return []int{f} }), all, 1, 1, all)
	manyAre(t, "the next one", many(func(f int) []int { return []int{f + 1} }), all, 1, all, 1)
	manyAre(t, "the one ahead", many(func(f int) []int { return []int{f - 1} }), all, 1, all, 1)
	manyAre(t, "round", many(func(f int) []int { return []int{(f + 1) % all} }), 1, all, 1, 1)
	manyAre(t, "both sides", many(func(f int) []int { return []int{f - 1, f + 1} }), 1, all, 1, 1)
	manyAre(t, "the next one and the last", many(func(f int) []int { return []int{f + 1, last} }), all, 1, all, 1)
	manyAre(t, "the next one and the first", many(func(f int) []int { return []int{0, f + 1} }), 1, all, 1, 1)
	manyAre(t, "two and two", many(func(f int) []int { return []int{f ^ 1} }), all/2, 2, 1, all/2)
	manyAre(t, "two and two in a row", many(func(f int) []int { return []int{f ^ 1, f + 2} }), all/2, 2, all/2, 1)
	manyAre(t, "as a tree", many(func(f int) []int { return []int{2*f + 1, 2*f + 2} }), all, 1, 19, all/2)
}

// P1, P9.1, P9.2: more functions than there may be, that call any.
func TestManyAny(t *testing.T) {
	r := rand.New(rand.NewSource(7))
	for _, far := range []int{2, 9, 150} {
		for range 4 {
			var m api.Module
			for f := range 150 {
				m.Funcs = append(m.Funcs, calling(f-far/2+r.Intn(far), f-r.Intn(far), r.Intn(10*150)))
			}
			is(t, "150 functions", m, wantOf(m))
		}
	}
}

// P9.1: Calls doesn't hang on what a function is besides its calls.
func TestElse(t *testing.T) {
	each(8, func(what string, m api.Module) {
		want := answersOf(m)
		n := sample.CopyModule(m)
		for f := range n.Funcs {
			n.Funcs[f].Params, n.Funcs[f].Result, n.Funcs[f].Regs = -1, 9, nil
			for b := range n.Funcs[f].Blocks {
				n.Funcs[f].Blocks[b].Phis = []api.Phi{{Dst: -5, Args: []int{f}}}
				n.Funcs[f].Blocks[b].Term = sample.Jump(b, b+1, -1)
			}
		}
		is(t, what, n, want)
	})
}
