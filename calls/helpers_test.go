package calls_test

import (
	"fmt"
	"math/rand"
	"reflect"
	"slices"
	"testing"

	"fettle/api"
	"fettle/calls"
	"fettle/sample"
)

// module is a module of functions that call these, in this order.
func module(lists ...[]int) api.Module {
	var m api.Module
	for _, l := range lists {
		m.Funcs = append(m.Funcs, calling(l...))
	}
	return m
}

// calling is a function that calls these, in this order.
func calling(l ...int) api.Func {
	var b api.Block
	for _, fun := range l {
		b.Ins = append(b.Ins, sample.Call(fun, -1))
	}
	b.Term = sample.GiveBack(-1)
	return api.Func{Blocks: []api.Block{b}}
}

// answers are what is told of a module.
type answers struct {
	calls, rings [][]int
	waves        [][][]int
}

// answersOf are the package's.
func answersOf(m api.Module) answers {
	return answers{calls: calls.Calls(m), rings: calls.Rings(m), waves: calls.Waves(m)}
}

// same tells whether two answers are alike: lists of no elements may be nil.
func same(a, b any) bool { return fmt.Sprint(a) == fmt.Sprint(b) }

// is holds that these are a module's answers.
func is(t *testing.T, what string, m api.Module, want answers) {
	t.Helper()
	callsAre(t, what, m, want.calls...)
	ringsAre(t, what, m, want.rings...)
	wavesAre(t, what, m, want.waves...)
}

// callsAre holds which functions a module's functions call.
func callsAre(t *testing.T, what string, m api.Module, want ...[]int) {
	t.Helper()
	if got := calls.Calls(m); !same(got, want) {
		t.Errorf("%s: Calls: %v, want %v", what, got, want)
	}
}

// ringsAre holds which are a module's rings.
func ringsAre(t *testing.T, what string, m api.Module, want ...[]int) {
	t.Helper()
	if got := calls.Rings(m); !same(got, want) {
		t.Errorf("%s: Rings: %v, want %v", what, got, want)
	}
}

// wavesAre holds which are a module's waves.
func wavesAre(t *testing.T, what string, m api.Module, want ...[][]int) {
	t.Helper()
	if got := calls.Waves(m); !same(got, want) {
		t.Errorf("%s: Waves: %v, want %v", what, got, want)
	}
}

// wave are a wave's rings.
func wave(rings ...[]int) [][]int { return rings }

// ring are a ring's functions.
func ring(funs ...int) []int { return funs }

// unchanged holds that a module is as it was.
func unchanged(t *testing.T, what string, m, was api.Module) {
	t.Helper()
	if !reflect.DeepEqual(m, was) {
		t.Errorf("%s: handed in\n%v, now it is\n%v", what, was, m)
	}
}

// each goes through any modules: of functions that call any, proper ones, and
// any other ones.
func each(seed int64, by func(what string, m api.Module)) {
	r := rand.New(rand.NewSource(seed))
	for i := range 3000 {
		by(fmt.Sprint("calling ", i), anyCalls(r))
	}
	for i := range 600 {
		by(fmt.Sprint("proper ", i), sample.Any(r.Intn))
	}
	for i := range 2000 {
		var m api.Module
		for range r.Intn(6) {
			m.Funcs = append(m.Funcs, sample.Odd(r.Intn))
		}
		by(fmt.Sprint("odd ", i), m)
	}
}

// anyCalls is a module of up to as many functions as there may be, told by
// numbers in any order, which call any few ones: ones that aren't far behind
// them, now and then one ahead, and seldom any, or one that isn't there.
func anyCalls(r *rand.Rand) api.Module {
	many, most, back, seldom := 1+r.Intn(api.MaxFuncs), 1+r.Intn(4), 1+r.Intn(12), 1+r.Intn(60)
	number := r.Perm(many)
	m := api.Module{Funcs: make([]api.Func, many)}
	for i, f := range number {
		var l []int
		for range r.Intn(most + 1) {
			switch {
			case r.Intn(seldom) == 0:
				l = append(l, r.Intn(many+2)-1)
			case r.Intn(back) == 0:
				l = append(l, number[max(0, i-r.Intn(4))])
			default:
				l = append(l, number[min(many-1, i+1+r.Intn(5))])
			}
		}
		m.Funcs[f] = twoBlocks(l, r.Intn(len(l)+1))
	}
	return m
}

// twoBlocks is a function that calls these, from the at-th on in a block that
// isn't reached.
func twoBlocks(l []int, at int) api.Func {
	return api.Func{Blocks: slices.Concat(calling(l[:at]...).Blocks, calling(l[at:]...).Blocks)}
}
