package loops_test

import (
	"fmt"
	"math/rand"
	"reflect"
	"slices"
	"testing"

	"fettle/api"
	"fettle/loops"
	"fettle/sample"
)

// same tells whether two answers are alike: lists of no elements may be nil.
func same(a, b any) bool { return fmt.Sprint(a) == fmt.Sprint(b) }

// ways is a function whose blocks have these Tos.
func ways(tos ...[]int) api.Func { return sample.Ways(tos...) }

// loop is one of a head, entered from some blocks.
func loop(head int, entries []int, blocks ...int) api.Loop {
	return api.Loop{Head: head, Blocks: blocks, Entries: entries}
}

// answers are what is told of a function.
type answers struct {
	loops []api.Loop
	depth []int
	clean bool
}

// answersOf are the package's.
func answersOf(f api.Func) answers {
	return answers{loops: loops.Loops(f), depth: loops.Depth(f), clean: loops.Clean(f)}
}

// is holds that these are a function's answers.
func is(t *testing.T, what string, f api.Func, want answers) {
	t.Helper()
	got := answersOf(f)
	if !same(got.loops, want.loops) {
		t.Errorf("%s: Loops: %v, want %v", what, got.loops, want.loops)
	}
	if !slices.Equal(got.depth, want.depth) {
		t.Errorf("%s: Depth: %v, want %v", what, got.depth, want.depth)
	}
	if got.clean != want.clean {
		t.Errorf("%s: Clean: %v, want %v", what, got.clean, want.clean)
	}
}

// unchanged holds that a function is as it was.
func unchanged(t *testing.T, what string, f, was api.Func) {
	t.Helper()
	if !reflect.DeepEqual(f, was) {
		t.Errorf("%s: handed in\n%v, now it is\n%v", what, was, f)
	}
}

// eachOdd goes through any functions, proper or not.
func eachOdd(seed int64, by func(what string, f api.Func)) {
	r := rand.New(rand.NewSource(seed))
	for i := range 6000 {
		by(fmt.Sprint("function ", i), sample.Odd(r.Intn))
	}
}

// eachFar goes through functions of up to as many blocks as there may be, which
// lead to any three at most, most often near ones.
func eachFar(seed int64, by func(what string, f api.Func)) {
	r := rand.New(rand.NewSource(seed))
	for i := range 600 {
		by(fmt.Sprint("far ", i), far(r, 1+r.Intn(api.MaxBlocks), 1+r.Intn(9)))
	}
}

// far is a function of so many blocks, which lead to any three at most; one To
// of so many is any, others are at most six blocks away.
func far(r *rand.Rand, blocks, rarely int) api.Func {
	f := api.Func{Blocks: make([]api.Block, blocks)}
	for i := range f.Blocks {
		for range 1 + r.Intn(3) {
			to := i - 6 + r.Intn(13)
			if r.Intn(rarely) == 0 {
				to = r.Intn(blocks)
			}
			f.Blocks[i].Term.To = append(f.Blocks[i].Term.To, to)
		}
	}
	return f
}

// eachDeep goes through functions of loops in loops: a row, of which some blocks
// lead back to one ahead that isn't passed by, told by numbers in any order.
func eachDeep(seed int64, by func(what string, f api.Func)) {
	r := rand.New(rand.NewSource(seed))
	for i := range 600 {
		by(fmt.Sprint("deep ", i), deep(r, 1+r.Intn(24)))
	}
}

// deep is such a function of so many blocks.
func deep(r *rand.Rand, blocks int) api.Func {
	number := append([]int{0}, r.Perm(blocks)...)
	for i := range number[1:] {
		number[1+i]++
	}
	tos := make([][]int, blocks+1)
	for i := range blocks {
		to := []int{number[i+1]}
		if back := r.Intn(i + 1); r.Intn(2) == 0 {
			to = append(to, number[back])
		}
		if r.Intn(6) == 0 && i+2 <= blocks {
			to = append(to, number[i+2])
		}
		tos[number[i]] = to
	}
	return ways(tos...)
}

// eachProper goes through the functions of any proper modules.
func eachProper(seed int64, by func(what string, f api.Func)) {
	r := rand.New(rand.NewSource(seed))
	for i := range 900 {
		for n, f := range sample.Any(r.Intn).Funcs {
			by(fmt.Sprintf("module %d, function %d", i, n), f)
		}
	}
}

// each goes through all of these.
func each(seed int64, by func(what string, f api.Func)) {
	eachOdd(seed, by)
	eachFar(seed, by)
	eachDeep(seed, by)
	eachProper(seed, by)
}
