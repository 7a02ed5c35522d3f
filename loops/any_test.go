package loops_test

import (
	"fmt"
	"math/rand"
	"runtime/debug"
	"slices"
	"testing"

	"fettle/api"
	"fettle/dom"
	"fettle/graph"
	"fettle/loops"
	"fettle/sample"
)

// What follows up to the first test tells the chapter's answers once more, as
// its words stand, going through the blocks of each loop by themselves.

// comesTo are the blocks that one comes to from a block, itself counted,
// without going by another one.
func comesTo(next [][]int, from, but int) []bool {
	come := make([]bool, len(next))
	open := []int{from}
	for len(open) > 0 {
		b := open[0]
		open = open[1:]
		if b >= len(next) || b == but || come[b] {
			continue
		}
		come[b] = true
		open = append(open, next[b]...)
	}
	return come
}

// dominatesOf is which blocks dominate which: what isn't reached without them.
func dominatesOf(next [][]int) [][]bool {
	reached := comesTo(next, 0, -1)
	var dominates [][]bool
	for b := range next {
		row := comesTo(next, 0, b)
		for i := range row {
			row[i] = reached[i] && !row[i]
		}
		dominates = append(dominates, row)
	}
	return dominates
}

// lastOf are the blocks that lead to a head and that it dominates.
func lastOf(next [][]int, dominates [][]bool, head int) []int {
	var last []int
	for b := range next {
		if slices.Contains(next[b], head) && dominates[head][b] {
			last = append(last, b)
		}
	}
	return last
}

// loopOf is a head's loop.
func loopOf(next [][]int, reached []bool, head int, last []int) api.Loop {
	l := api.Loop{Head: head}
	for b := range next {
		in := b == head || slices.Contains(last, b)
		come := comesTo(next, b, head)
		for _, to := range last {
			in = in || reached[b] && come[to]
		}
		if in {
			l.Blocks = append(l.Blocks, b)
		}
	}
	for b := range next {
		if reached[b] && slices.Contains(next[b], head) && !slices.Contains(l.Blocks, b) {
			l.Entries = append(l.Entries, b)
		}
	}
	return l
}

// isClean tells whether each block that leads to one that is ahead of it in the
// order, or is it, is dominated by that one.
func isClean(next [][]int, dominates [][]bool, order []int) bool {
	for i, b := range order {
		for _, to := range order[:i+1] {
			if slices.Contains(next[b], to) && !dominates[to][b] {
				return false
			}
		}
	}
	return true
}

// wantOf are all of a function's answers.
func wantOf(f api.Func) answers {
	next := graph.Next(f)
	dominates, reached := dominatesOf(next), comesTo(next, 0, -1)
	want := answers{depth: make([]int, len(next)), clean: isClean(next, dominates, graph.Order(f))}
	for head := range next {
		last := lastOf(next, dominates, head)
		if len(last) == 0 {
			continue
		}
		l := loopOf(next, reached, head, last)
		want.loops = append(want.loops, l)
		for _, b := range l.Blocks {
			want.depth[b]++
		}
	}
	return want
}

// P1, P7.1, P7.2: what is answered of any functions.
func TestAny(t *testing.T) {
	seen := sample.Tally{}
	each(1, func(what string, f api.Func) {
		want := wantOf(f)
		is(t, what, f, want)
		seen.Add("no blocks", len(want.depth) == 0)
		seen.Add("no loops, clean", len(want.depth) > 0 && len(want.loops) == 0 && want.clean)
		seen.Add("no loops, not clean", len(want.loops) == 0 && !want.clean)
		seen.Add("loops, clean", len(want.loops) > 0 && want.clean)
		seen.Add("loops, not clean", len(want.loops) > 0 && !want.clean)
		seen.Add("three loops deep", slices.Contains(want.depth, 3))
		for _, l := range want.loops {
			seen.Add("head 0", l.Head == 0)
			seen.Add("one block", len(l.Blocks) == 1)
			seen.Add("many blocks", len(l.Blocks) > 4)
			seen.Add("a block below the head", l.Blocks[0] < l.Head)
			seen.Add("no entries, not block 0", len(l.Entries) == 0 && l.Head > 0)
			seen.Add("many entries", len(l.Entries) > 2)
			seen.Add("entered from behind", len(l.Entries) > 0 && slices.Max(l.Entries) > l.Head)
		}
	})
	seen.Enough(t, "no blocks", "no loops, clean", "no loops, not clean", "loops, clean", "loops, not clean",
		"three loops deep", "head 0", "one block", "many blocks", "a block below the head", "many entries", "entered from behind")
	if seen["no entries, not block 0"] > 0 {
		t.Error("a head that is reached, but isn't block 0, has an entry: ", seen)
	}
}

// P7.1, P7.2: all functions of four blocks.
func TestAllOfFour(t *testing.T) {
	const blocks = 4
	for n := range 1 << (blocks * blocks) {
		tos := make([][]int, blocks)
		for i := range blocks * blocks {
			if n>>i&1 == 1 {
				tos[i/blocks] = append(tos[i/blocks], i%blocks)
			}
		}
		f := ways(tos...)
		is(t, fmt.Sprint(tos), f, wantOf(f))
		if t.Failed() {
			return
		}
	}
}

// P7.4: a head dominates all blocks of its loop. Two loops of unlike heads have
// no block together, or the one's head is in the other.
func TestLoopsFollow(t *testing.T) {
	apart, within := 0, 0
	each(2, func(what string, f api.Func) {
		d := dom.Dominates(f)
		all := loops.Loops(f)
		for i, l := range all {
			for _, b := range l.Blocks {
				if !d[l.Head][b] {
					t.Errorf("%s: head %d doesn't dominate %d, of its loop", what, l.Head, b)
				}
			}
			for _, other := range all[:i] {
				together := slices.ContainsFunc(l.Blocks, func(b int) bool { return slices.Contains(other.Blocks, b) })
				if !together {
					apart++
					continue
				}
				within++
				if !slices.Contains(l.Blocks, other.Head) && !slices.Contains(other.Blocks, l.Head) {
					t.Errorf("%s: %v and %v have blocks together, but not a head", what, l, other)
				}
			}
		}
	})
	if apart < 100 || within < 100 {
		t.Error("too few loops apart, or within one another: ", apart, within)
	}
}

// P7.4: whoever comes from block 0 to a block of a loop came by its head.
func TestComesBy(t *testing.T) {
	r := rand.New(rand.NewSource(3))
	each(3, func(what string, f api.Func) {
		all, next := loops.Loops(f), graph.Next(f)
		if len(next) == 0 {
			return
		}
		way := []int{0}
		for range 40 {
			b := way[len(way)-1]
			for _, l := range all {
				if slices.Contains(l.Blocks, b) && !slices.Contains(way, l.Head) {
					t.Errorf("%s: the way %v isn't by head %d, of whose loop is %d", what, way, l.Head, b)
				}
			}
			if len(next[b]) == 0 {
				return
			}
			way = append(way, next[b][r.Intn(len(next[b]))])
		}
	})
}

// P7.2: where a function is clean, whatever goes round is a loop: nothing goes
// round any more without the ways back to heads; where it isn't, something does.
func TestCleanFollows(t *testing.T) {
	each(4, func(what string, f api.Func) {
		next, d := graph.Next(f), dom.Dominates(f)
		for b := range next {
			next[b] = slices.DeleteFunc(next[b], func(to int) bool { return d[to][b] })
		}
		round := false
		for b, reached := range graph.Reached(f) {
			for _, to := range next[b] {
				round = round || reached && comesTo(next, to, -1)[b]
			}
		}
		if clean := loops.Clean(f); clean == round {
			t.Errorf("%s: clean: %v, something goes round without a head: %v", what, clean, round)
		}
	})
}

// P7.3, R2: what is handed in stays as it is.
func TestHandedInStays(t *testing.T) {
	eachOdd(5, func(what string, f api.Func) {
		was := sample.Copy(f)
		loops.Loops(f)
		unchanged(t, what+", Loops", f, was)
		loops.Depth(f)
		unchanged(t, what+", Depth", f, was)
		loops.Clean(f)
		unchanged(t, what+", Clean", f, was)
	})
}

// fill writes over a list, and behind it as far as its memory goes.
func fill(l []int) {
	l = l[:cap(l)]
	for i := range l {
		l[i] = -99
	}
}

// P7.3, R2: what is told is new memory: written over it changes neither what
// was handed in nor what was told before.
func TestToldIsNew(t *testing.T) {
	eachOdd(6, func(what string, f api.Func) {
		was := sample.Copy(f)
		before := answersOf(f)
		told := fmt.Sprint(before)
		after := answersOf(f)
		fill(after.depth)
		for _, l := range after.loops {
			fill(l.Blocks)
			fill(l.Entries)
		}
		unchanged(t, what, f, was)
		for _, b := range f.Blocks {
			fill(b.Term.To)
		}
		if now := fmt.Sprint(before); now != told {
			t.Errorf("%s: told\n%s, now it is\n%s", what, told, now)
		}
	})
}

// P7.3, R2: no two lists of one answer share any.
func TestListsApart(t *testing.T) {
	each(7, func(what string, f api.Func) {
		var lists [][]int
		for _, l := range loops.Loops(f) {
			lists = append(lists, l.Blocks, l.Entries)
		}
		for i, l := range lists {
			others := slices.Delete(slices.Clone(lists), i, i+1)
			was := fmt.Sprint(others)
			fill(l)
			if fmt.Sprint(others) != was {
				t.Errorf("%s: list %d shares with another one", what, i)
			}
		}
	})
}

// manyBlocks is far above the limit: a function that isn't proper may have
// however many.
const manyBlocks = 1 << 17

// row is a function of many blocks, each of which leads to the one behind it,
// and to another one.
func row(other func(b int) int) api.Func {
	f := api.Func{Blocks: make([]api.Block, manyBlocks)}
	for b := range f.Blocks {
		f.Blocks[b].Term.To = []int{b + 1, other(b)}
	}
	return f
}

// rowIs holds in how many loops each block of such a function is, and whether
// it is clean.
func rowIs(t *testing.T, what string, f api.Func, depth func(b int) int, clean bool) {
	t.Helper()
	for b, got := range loops.Depth(f) {
		if want := depth(b); got != want {
			t.Errorf("each leads to the next one and %s: %d is in %d loops, want %d", what, b, got, want)
			return
		}
	}
	if loops.Clean(f) != clean {
		t.Errorf("each leads to the next one and %s: clean: %v", what, !clean)
	}
}

// P1, P7.1, P7.2: rows of many blocks, with however many ways back, and however
// deep in loops, are no harm, however little Go's stack holds.
func TestLongRows(t *testing.T) {
	defer debug.SetMaxStack(debug.SetMaxStack(8 << 20))
	const last = manyBlocks - 1
	one := func(b int) int { return 1 }
	none := func(b int) int { return 0 }
	rowIs(t, "none", row(func(b int) int { return -1 }), none, true)
	rowIs(t, "itself", row(func(b int) int { return b }), one, true)
	rowIs(t, "block 0", row(func(b int) int { return 0 }), one, true)
	rowIs(t, "the one ahead", row(func(b int) int { return b - 1 }), func(b int) int { return min(b+1, last) }, true)
	deep := row(func(b int) int { return -1 })
	for b := range manyBlocks {
		deep.Blocks[last].Term.To = append(deep.Blocks[last].Term.To, b)
	}
	rowIs(t, "the last one to all", deep, func(b int) int { return b + 1 }, true)
	rowIs(t, "the last one, and that to 1", row(func(b int) int {
		if b == last {
			return 1
		}
		return last
	}), none, false)
}

// P1, P7.1: loops of many blocks, and as many loops.
func TestManyLoops(t *testing.T) {
	all := loops.Loops(row(func(b int) int { return 0 }))
	if len(all) != 1 || len(all[0].Blocks) != manyBlocks || !slices.IsSorted(all[0].Blocks) || len(all[0].Entries) != 0 {
		t.Error("all to block 0: ", len(all))
	}
	all = loops.Loops(row(func(b int) int { return b }))
	if len(all) != manyBlocks {
		t.Fatal("each to itself: ", len(all))
	}
	for b, l := range all[1:] {
		if want := loop(b+1, []int{b}, b+1); !same(l, want) {
			t.Errorf("each to itself: %v, want %v", l, want)
			break
		}
	}
}

// P1, P7.1, P7.2: more blocks than there may be, that lead anywhere.
func TestManyBlocks(t *testing.T) {
	r := rand.New(rand.NewSource(8))
	for range 4 {
		f := far(r, 200, 1+r.Intn(9))
		is(t, "200 blocks", f, wantOf(f))
		f = deep(r, 200)
		is(t, "200 blocks deep", f, wantOf(f))
	}
	for _, rarely := range []int{1, 4, 1000} {
		f := far(r, manyBlocks, rarely)
		depth := make([]int, manyBlocks)
		for _, l := range loops.Loops(f) {
			for _, b := range l.Blocks {
				depth[b]++
			}
		}
		if !slices.Equal(depth, loops.Depth(f)) {
			t.Error("Depth tells otherwise than Loops of many blocks, far ", rarely)
		}
		loops.Clean(f)
	}
}
