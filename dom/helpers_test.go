package dom_test

import (
	"fmt"
	"math/rand"
	"reflect"
	"slices"
	"testing"

	"fettle/api"
	"fettle/dom"
	"fettle/sample"
)

// same tells whether two answers are alike: lists of no elements may be nil.
func same(a, b any) bool { return fmt.Sprint(a) == fmt.Sprint(b) }

// ways is a function whose blocks have these Tos.
func ways(tos ...[]int) api.Func { return sample.Ways(tos...) }

// answers are what is told of a function.
type answers struct {
	nearest         []int
	dominates       [][]bool
	frontier, under [][]int
}

// answersOf are the package's.
func answersOf(f api.Func) answers {
	return answers{nearest: dom.Nearest(f), dominates: dom.Dominates(f), frontier: dom.Frontier(f), under: dom.Under(f)}
}

// is holds that these are a function's answers.
func is(t *testing.T, what string, f api.Func, want answers) {
	t.Helper()
	got := answersOf(f)
	if !slices.Equal(got.nearest, want.nearest) {
		t.Errorf("%s: Nearest: %v, want %v", what, got.nearest, want.nearest)
	}
	if !same(got.dominates, want.dominates) {
		t.Errorf("%s: Dominates: %v, want %v", what, got.dominates, want.dominates)
	}
	if !same(got.frontier, want.frontier) {
		t.Errorf("%s: Frontier: %v, want %v", what, got.frontier, want.frontier)
	}
	if !same(got.under, want.under) {
		t.Errorf("%s: Under: %v, want %v", what, got.under, want.under)
	}
}

// unchanged holds that a function is as it was.
func unchanged(t *testing.T, what string, f, was api.Func) {
	t.Helper()
	if !reflect.DeepEqual(f, was) {
		t.Errorf("%s: handed in\n%v, now it is\n%v", what, was, f)
	}
}

// eachOdd goes through any functions, proper or not.
func eachOdd(seed int64, by func(what string, f api.Func)) {
	r := rand.New(rand.NewSource(seed))
	for i := range 6000 {
		by(fmt.Sprint("function ", i), sample.Odd(r.Intn))
	}
}

// eachFar goes through functions of up to as many blocks as there may be, which
// lead to any three at most, most often near ones.
func eachFar(seed int64, by func(what string, f api.Func)) {
	r := rand.New(rand.NewSource(seed))
	for i := range 600 {
		by(fmt.Sprint("far ", i), far(r, 1+r.Intn(api.MaxBlocks), 1+r.Intn(9)))
	}
}

// far is a function of so many blocks, which lead to any three at most; one To
// of so many is any, others are at most six blocks away.
func far(r *rand.Rand, blocks, rarely int) api.Func {
	f := api.Func{Blocks: make([]api.Block, blocks)}
	for i := range f.Blocks {
		for range 1 + r.Intn(3) {
			to := i - 6 + r.Intn(13)
			if r.Intn(rarely) == 0 {
				to = r.Intn(blocks)
			}
			f.Blocks[i].Term.To = append(f.Blocks[i].Term.To, to)
		}
	}
	return f
}

// eachProper goes through the functions of any proper modules.
func eachProper(seed int64, by func(what string, f api.Func)) {
	r := rand.New(rand.NewSource(seed))
	for i := range 600 {
		for n, f := range sample.Any(r.Intn).Funcs {
			by(fmt.Sprintf("module %d, function %d", i, n), f)
		}
	}
}

// each goes through all of these.
func each(seed int64, by func(what string, f api.Func)) {
	eachOdd(seed, by)
	eachFar(seed, by)
	eachProper(seed, by)
}
