package graph_test

import (
	"fmt"
	"math/rand"
	"reflect"
	"slices"
	"testing"

	"fettle/api"
	"fettle/graph"
	"fettle/sample"
)

// same tells whether two answers are alike: lists of no elements may be nil.
func same(a, b any) bool { return fmt.Sprint(a) == fmt.Sprint(b) }

// leads holds that of a function's blocks next is what each leads to.
func leads(t *testing.T, what string, f api.Func, next ...[]int) {
	t.Helper()
	if got := graph.Next(f); !same(got, next) {
		t.Errorf("%s: Next: %v, want %v", what, got, next)
	}
}

// comesIn holds that these are a function's blocks that are reached, in the
// order, and that Reached tells the same ones.
func comesIn(t *testing.T, what string, f api.Func, order ...int) {
	t.Helper()
	if got := graph.Order(f); !slices.Equal(got, order) {
		t.Errorf("%s: Order: %v, want %v", what, got, order)
	}
	reached := make([]bool, len(f.Blocks))
	for _, b := range order {
		reached[b] = true
	}
	if got := graph.Reached(f); !slices.Equal(got, reached) {
		t.Errorf("%s: Reached: %v, want %v", what, got, reached)
	}
}

// trimmedTo holds that a function is trimmed to want, with these new numbers.
func trimmedTo(t *testing.T, what string, f, want api.Func, numbers ...int) {
	t.Helper()
	g, n := graph.Trim(f)
	if !same(g, want) {
		t.Errorf("%s: Trim:\n%v, want\n%v", what, g, want)
	}
	if !slices.Equal(n, numbers) {
		t.Errorf("%s: Trim: new numbers %v, want %v", what, n, numbers)
	}
}

// ways is a function whose blocks have these Tos.
func ways(tos ...[]int) api.Func { return sample.Ways(tos...) }

// eachOdd goes through any functions, proper or not.
func eachOdd(t *testing.T, seed int64, by func(what string, f api.Func)) {
	t.Helper()
	r := rand.New(rand.NewSource(seed))
	for i := range 10000 {
		by(fmt.Sprint("function ", i), sample.Odd(r.Intn))
	}
}

// eachProper goes through the functions of any proper modules.
func eachProper(t *testing.T, seed int64, by func(what string, r *rand.Rand, m api.Module, f int)) {
	t.Helper()
	r := rand.New(rand.NewSource(seed))
	for i := range 2000 {
		m := sample.Any(r.Intn)
		for f := range m.Funcs {
			by(fmt.Sprintf("module %d, function %d", i, f), r, m, f)
		}
	}
}

// unchanged holds that a function is as it was.
func unchanged(t *testing.T, what string, f, was api.Func) {
	t.Helper()
	if !reflect.DeepEqual(f, was) {
		t.Errorf("%s: handed in\n%v, now it is\n%v", what, was, f)
	}
}
