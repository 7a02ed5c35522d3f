package dom_test

import (
	"fmt"
	"math/rand"
	"runtime/debug"
	"slices"
	"testing"

	"fettle/api"
	"fettle/dom"
	"fettle/graph"
	"fettle/sample"
)

// What follows up to the first test tells the chapter's answers once more, as
// its words stand: a block dominates what isn't reached any more without it.

// reachedBut are the blocks that are reached without going by one.
func reachedBut(next [][]int, but int) []bool {
	reached := make([]bool, len(next))
	open := []int{0}
	for len(open) > 0 {
		b := open[0]
		open = open[1:]
		if b >= len(next) || b == but || reached[b] {
			continue
		}
		reached[b] = true
		open = append(open, next[b]...)
	}
	return reached
}

// dominatesOf is which blocks dominate which.
func dominatesOf(next [][]int) [][]bool {
	reached := reachedBut(next, -1)
	var dominates [][]bool
	for b := range next {
		row := reachedBut(next, b)
		for i := range row {
			row[i] = reached[i] && !row[i]
		}
		dominates = append(dominates, row)
	}
	return dominates
}

// nearestOf is of those that dominate a block and aren't it the one that all
// others of them dominate.
func nearestOf(dominates [][]bool, b int) int {
	nearest := -1
	for by := range dominates {
		all := by != b && dominates[by][b]
		for other := range dominates {
			all = all && (other == b || !dominates[other][b] || dominates[other][by])
		}
		if all {
			nearest = by
		}
	}
	return nearest
}

// frontierOf are the blocks that a block doesn't dominate, or that are it, and
// that one leads to that it dominates.
func frontierOf(next [][]int, dominates [][]bool, b int) []int {
	var frontier []int
	for to := range next {
		led := false
		for from := range next {
			led = led || dominates[b][from] && slices.Contains(next[from], to)
		}
		if led && (to == b || !dominates[b][to]) {
			frontier = append(frontier, to)
		}
	}
	return frontier
}

// wantOf are all of a function's answers.
func wantOf(f api.Func) answers {
	next := graph.Next(f)
	want := answers{dominates: dominatesOf(next), under: make([][]int, len(next))}
	for b := range next {
		by := nearestOf(want.dominates, b)
		want.nearest = append(want.nearest, by)
		if by >= 0 {
			want.under[by] = append(want.under[by], b)
		}
		want.frontier = append(want.frontier, frontierOf(next, want.dominates, b))
	}
	return want
}

// P1, P6.1, P6.2: what is answered of any functions.
func TestAny(t *testing.T) {
	seen := sample.Tally{}
	each(1, func(what string, f api.Func) {
		want := wantOf(f)
		is(t, what, f, want)
		seen.Add("no blocks", len(want.nearest) == 0)
		for b, by := range want.nearest {
			reached := want.dominates[b][b]
			seen.Add("not reached", !reached)
			seen.Add("reached, with no nearest", reached && by < 0)
			seen.Add("nearest 0", by == 0)
			seen.Add("nearest another one, ahead", by > 0 && by < b)
			seen.Add("nearest another one, behind", by > b)
			seen.Add("a nearest that doesn't lead to it", by >= 0 && !slices.Contains(graph.Next(f)[by], b))
			seen.Add("an empty frontier", reached && len(want.frontier[b]) == 0)
			seen.Add("a frontier of many", len(want.frontier[b]) > 2)
			seen.Add("in its own frontier", slices.Contains(want.frontier[b], b))
			seen.Add("under it many", len(want.under[b]) > 2)
		}
		seen.Add("block 0 in a frontier", len(want.frontier) > 0 && slices.Contains(want.frontier[0], 0))
	})
	seen.Enough(t, "no blocks", "not reached", "reached, with no nearest", "nearest 0", "nearest another one, ahead",
		"nearest another one, behind", "a nearest that doesn't lead to it", "an empty frontier", "a frontier of many",
		"in its own frontier", "under it many", "block 0 in a frontier")
}

// P6.1, P6.2: all functions of four blocks.
func TestAllOfFour(t *testing.T) {
	const blocks = 4
	for n := range 1 << (blocks * blocks) {
		tos := make([][]int, blocks)
		for i := range blocks * blocks {
			if n>>i&1 == 1 {
				tos[i/blocks] = append(tos[i/blocks], i%blocks)
			}
		}
		f := ways(tos...)
		is(t, fmt.Sprint(tos), f, wantOf(f))
		if t.Failed() {
			return
		}
	}
}

// P6.4: a block that is reached dominates itself; block 0 dominates all that
// are; of two that dominate one the one dominates the other; no two unlike
// ones dominate each other.
func TestDominatesFollows(t *testing.T) {
	each(2, func(what string, f api.Func) {
		d := dom.Dominates(f)
		for b, reached := range graph.Reached(f) {
			if d[b][b] != reached || d[0][b] != reached {
				t.Errorf("%s: block %d, reached: %v: dominated by itself: %v, by block 0: %v", what, b, reached, d[b][b], d[0][b])
			}
			for one := range d {
				for other := range one {
					if d[one][b] && d[other][b] && !d[one][other] && !d[other][one] {
						t.Errorf("%s: blocks %d and %d dominate %d, but neither the other", what, one, other, b)
					}
				}
			}
		}
		for one := range d {
			for other := range one {
				if d[one][other] && d[other][one] {
					t.Errorf("%s: blocks %d and %d dominate each other", what, one, other)
				}
			}
		}
	})
}

// P6.4: whoever comes from block 0 to a block came by all that dominate it.
func TestComesBy(t *testing.T) {
	r := rand.New(rand.NewSource(3))
	each(3, func(what string, f api.Func) {
		d, next := dom.Dominates(f), graph.Next(f)
		if len(d) == 0 {
			return
		}
		way := []int{0}
		for range 40 {
			b := way[len(way)-1]
			for by := range d {
				if d[by][b] && !slices.Contains(way, by) {
					t.Errorf("%s: the way %v isn't by %d, which dominates %d", what, way, by, b)
				}
			}
			if len(next[b]) == 0 {
				return
			}
			way = append(way, next[b][r.Intn(len(next[b]))])
		}
	})
}

// P6.3, R2: what is handed in stays as it is.
func TestHandedInStays(t *testing.T) {
	eachOdd(4, func(what string, f api.Func) {
		was := sample.Copy(f)
		dom.Nearest(f)
		unchanged(t, what+", Nearest", f, was)
		dom.Dominates(f)
		unchanged(t, what+", Dominates", f, was)
		dom.Frontier(f)
		unchanged(t, what+", Frontier", f, was)
		dom.Under(f)
		unchanged(t, what+", Under", f, was)
	})
}

// fill writes over a list, and behind it as far as its memory goes.
func fill(l []int) {
	l = l[:cap(l)]
	for i := range l {
		l[i] = -99
	}
}

// turn writes over a list of truths, and behind it as far as its memory goes.
func turn(l []bool) {
	l = l[:cap(l)]
	for i := range l {
		l[i] = !l[i]
	}
}

// P6.3, R2: what is told is new memory: written over it changes neither what
// was handed in nor what was told before.
func TestToldIsNew(t *testing.T) {
	eachOdd(5, func(what string, f api.Func) {
		was := sample.Copy(f)
		before := answersOf(f)
		told := fmt.Sprint(before)
		after := answersOf(f)
		fill(after.nearest)
		for b := range after.dominates {
			turn(after.dominates[b])
			fill(after.frontier[b])
			fill(after.under[b])
		}
		unchanged(t, what, f, was)
		for _, b := range f.Blocks {
			fill(b.Term.To)
		}
		if now := fmt.Sprint(before); now != told {
			t.Errorf("%s: told\n%s, now it is\n%s", what, told, now)
		}
	})
}

// P6.3, R2: no two lists of one answer share any.
func TestListsApart(t *testing.T) {
	eachOdd(6, func(what string, f api.Func) {
		apart(t, what+", Dominates", dom.Dominates(f), turn)
		apart(t, what+", Frontier", dom.Frontier(f), fill)
		apart(t, what+", Under", dom.Under(f), fill)
	})
}

// apart holds that what is written over one list isn't seen in another one.
func apart[E any](t *testing.T, what string, lists [][]E, over func([]E)) {
	t.Helper()
	for i, l := range lists {
		others := slices.Delete(slices.Clone(lists), i, i+1)
		was := fmt.Sprint(others)
		over(l)
		if fmt.Sprint(others) != was {
			t.Errorf("%s: list %d shares with another one", what, i)
		}
	}
}

// manyBlocks is far above the limit: a function that isn't proper may have
// however many.
const manyBlocks = 1 << 17

// row is a function of many blocks, each of which leads to the one behind it,
// and to another one.
func row(other func(b int) int) api.Func {
	f := api.Func{Blocks: make([]api.Block, manyBlocks)}
	for b := range f.Blocks {
		f.Blocks[b].Term.To = []int{b + 1, other(b)}
	}
	return f
}

// rowIs holds what each block's nearest is in such a function, and its frontier.
func rowIs(t *testing.T, what string, other, nearest func(b int) int, frontier func(b int) []int) {
	t.Helper()
	f := row(other)
	for b, got := range dom.Nearest(f) {
		if want := nearest(b); got != want {
			t.Errorf("each leads to the next one and %s: nearest of %d: %d, want %d", what, b, got, want)
			return
		}
	}
	for b, got := range dom.Frontier(f) {
		if want := frontier(b); !slices.Equal(got, want) {
			t.Errorf("each leads to the next one and %s: frontier of %d: %v, want %v", what, b, got, want)
			return
		}
	}
}

// P1, P6.1, P6.2: rows of many blocks, with however many ways beside, are no
// harm, however little Go's stack holds.
func TestLongRows(t *testing.T) {
	defer debug.SetMaxStack(debug.SetMaxStack(8 << 20))
	const last = manyBlocks - 1
	none := func(b int) []int { return nil }
	ahead := func(b int) int { return b - 1 }
	first := func(b int) int { return min(b-1, 0) }
	rowIs(t, "none", func(b int) int { return -1 }, ahead, none)
	rowIs(t, "block 0", func(b int) int { return 0 }, ahead, func(b int) []int { return []int{0} })
	rowIs(t, "the one ahead", ahead, ahead, func(b int) []int {
		switch b {
		case 0:
			return []int{0}
		case last:
			return []int{last - 1}
		}
		return []int{b - 1, b}
	})
	rowIs(t, "the one behind that", func(b int) int { return b + 2 }, first, func(b int) []int {
		switch b {
		case 0, last:
			return nil
		case last - 1:
			return []int{last}
		}
		return []int{b + 1, b + 2}
	})
	rowIs(t, "the last one", func(b int) int { return last }, func(b int) int {
		if b == last {
			return 0
		}
		return b - 1
	}, func(b int) []int {
		if b == 0 {
			return nil
		}
		return []int{last}
	})
}

// P1, P6.1, P6.2: many blocks that block 0 leads to.
func TestManyTos(t *testing.T) {
	f := row(func(b int) int { return 0 })
	for b := range manyBlocks {
		f.Blocks[0].Term.To = append(f.Blocks[0].Term.To, b)
	}
	if under := dom.Under(f)[0]; len(under) != manyBlocks-1 || under[0] != 1 || !slices.IsSorted(under) {
		t.Error("under the one that leads to all: ", len(under))
	}
	for b, got := range dom.Frontier(f) {
		want := []int{0, b + 1}
		if b == 0 || b == manyBlocks-1 {
			want = want[:1]
		}
		if !slices.Equal(got, want) {
			t.Errorf("one leads to all: frontier of %d: %v, want %v", b, got, want)
			break
		}
	}
}

// P1, P6.1, P6.2: more blocks than there may be, that lead anywhere.
func TestManyBlocks(t *testing.T) {
	r := rand.New(rand.NewSource(7))
	for range 4 {
		f := far(r, 200, 1+r.Intn(9))
		is(t, "200 blocks", f, wantOf(f))
	}
	for _, rarely := range []int{1, 4, 1000} {
		f := far(r, manyBlocks, rarely)
		reached := graph.Reached(f)
		for b, by := range dom.Nearest(f) {
			if has := by >= 0; has != (reached[b] && b > 0) || has && !reached[by] {
				t.Errorf("block %d, reached: %v: nearest %d", b, reached[b], by)
				break
			}
		}
	}
}
