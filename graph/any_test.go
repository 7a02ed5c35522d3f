package graph_test

import (
	"fmt"
	"math/rand"
	"slices"
	"testing"

	"fettle/api"
	"fettle/check"
	"fettle/graph"
	"fettle/run"
	"fettle/sample"
)

// What follows up to the first test tells the chapter's answers once more, in
// other ways than the package's.

// nextOf is what each block leads to.
func nextOf(f api.Func) [][]int {
	var next [][]int
	for _, b := range f.Blocks {
		var l []int
		for i, to := range b.Term.To {
			if to >= 0 && to < len(f.Blocks) && slices.Index(b.Term.To, to) == i {
				l = append(l, to)
			}
		}
		next = append(next, l)
	}
	return next
}

// reachedOf are the blocks that are reached: as long as there are more, those
// that one of them leads to.
func reachedOf(f api.Func) []bool {
	reached := make([]bool, len(f.Blocks))
	if len(reached) > 0 {
		reached[0] = true
	}
	for more := true; more; {
		more = false
		for from, tos := range nextOf(f) {
			for _, to := range tos {
				if reached[from] && !reached[to] {
					reached[to], more = true, true
				}
			}
		}
	}
	return reached
}

// orderOf is the order: a list of what is left to do, with a block's done, as
// its number's complement, behind all that it leads to.
func orderOf(f api.Func) []int {
	if len(f.Blocks) == 0 {
		return nil
	}
	next := nextOf(f)
	gone := make([]bool, len(next))
	todo, order := []int{0}, []int{}
	for len(todo) > 0 {
		b := todo[len(todo)-1]
		todo = todo[:len(todo)-1]
		if b < 0 {
			order = append(order, ^b)
			continue
		}
		if gone[b] {
			continue
		}
		gone[b] = true
		todo = append(todo, ^b)
		for i := len(next[b]) - 1; i >= 0; i-- {
			todo = append(todo, next[b][i])
		}
	}
	slices.Reverse(order)
	return order
}

// trimOf is a function without the blocks that aren't reached.
func trimOf(f api.Func) (api.Func, []int) {
	reached, next := reachedOf(f), nextOf(f)
	var left []int
	for b := range f.Blocks {
		if reached[b] {
			left = append(left, b)
		}
	}
	var numbers []int
	for b := range f.Blocks {
		numbers = append(numbers, slices.Index(left, b))
	}
	g := sample.Copy(f)
	for b := len(f.Blocks) - 1; b >= 0; b-- {
		for i, to := range g.Blocks[b].Term.To {
			if to >= 0 && to < len(f.Blocks) {
				g.Blocks[b].Term.To[i] = numbers[to]
			}
		}
		if !reached[b] {
			g.Blocks = slices.Delete(g.Blocks, b, b+1)
		}
	}
	for i, b := range left {
		for j, p := range f.Blocks[b].Phis {
			g.Blocks[i].Phis[j].Args = argsLeft(p.Args, next, reached, b)
		}
	}
	return g, numbers
}

// argsLeft are the Args of a block's phi that stand for blocks that are left.
func argsLeft(args []int, next [][]int, reached []bool, b int) []int {
	var left []int
	at := 0
	for from := range next {
		if !slices.Contains(next[from], b) {
			continue
		}
		if reached[from] && at < len(args) {
			left = append(left, args[at])
		}
		at++
	}
	if at != len(args) {
		return args
	}
	return left
}

// argsOf are the Args of all of a block's phis.
func argsOf(b api.Block) []int {
	var l []int
	for _, p := range b.Phis {
		l = append(l, p.Args...)
	}
	return l
}

// P1, P5.1, P5.2: what is answered of any functions.
func TestAny(t *testing.T) {
	seen := sample.Tally{}
	eachOdd(t, 1, func(what string, f api.Func) {
		leads(t, what, f, nextOf(f)...)
		order := orderOf(f)
		comesIn(t, what, f, order...)
		if got, want := graph.Reached(f), reachedOf(f); !slices.Equal(got, want) {
			t.Errorf("%s: Reached: %v, want %v", what, got, want)
		}
		g, numbers := trimOf(f)
		trimmedTo(t, what, f, g, numbers...)
		seen.Add("all reached", len(order) == len(f.Blocks))
		seen.Add("some reached", len(order) > 2 && len(order) < len(f.Blocks))
		seen.Add("no blocks", len(f.Blocks) == 0)
		seen.Add("in another order", !slices.IsSorted(order))
		for b, to := range numbers {
			seen.Add("phis that lost Args", to >= 0 && len(argsOf(g.Blocks[to])) < len(argsOf(f.Blocks[b])))
		}
	})
	eachProper(t, 2, func(what string, _ *rand.Rand, m api.Module, f int) {
		g, numbers := trimOf(m.Funcs[f])
		trimmedTo(t, what, m.Funcs[f], g, numbers...)
		comesIn(t, what, m.Funcs[f], orderOf(m.Funcs[f])...)
		seen.Add("trimmed", len(g.Blocks) < len(numbers))
	})
	seen.Enough(t, "all reached", "some reached", "no blocks", "in another order", "phis that lost Args", "trimmed")
}

// P5.4: the order begins with block 0, and has each block that is reached
// once; each but the first one is led to by one ahead of it.
func TestOrderFollows(t *testing.T) {
	eachOdd(t, 3, func(what string, f api.Func) {
		order, next := graph.Order(f), graph.Next(f)
		if len(f.Blocks) > 0 && (len(order) == 0 || order[0] != 0) {
			t.Errorf("%s: it begins otherwise: %v", what, order)
		}
		for i, b := range order {
			led := slices.ContainsFunc(order[:i], func(from int) bool { return slices.Contains(next[from], b) })
			if i > 0 && !led || slices.Contains(order[:i], b) {
				t.Errorf("%s: block %d: %v", what, b, order)
			}
		}
		for b, is := range graph.Reached(f) {
			if is != slices.Contains(order, b) {
				t.Errorf("%s: block %d, reached: %v: %v", what, b, is, order)
			}
		}
	})
}

// P5.4: trimmed once more nothing goes.
func TestTrimmedTwice(t *testing.T) {
	eachOdd(t, 4, func(what string, f api.Func) {
		g, _ := graph.Trim(f)
		if slices.Contains(graph.Reached(g), false) {
			t.Errorf("%s: trimmed, but a block of it isn't reached: %v", what, g)
		}
		var all []int
		for i := range g.Blocks {
			all = append(all, i)
		}
		trimmedTo(t, what+", trimmed", g, g, all...)
	})
}

// P5.4: a function of a proper module stays proper, and does the same.
func TestDoesTheSame(t *testing.T) {
	seen := sample.Tally{}
	eachProper(t, 5, func(what string, r *rand.Rand, m api.Module, f int) {
		g, _ := graph.Trim(m.Funcs[f])
		n := api.Module{Funcs: slices.Clone(m.Funcs)}
		n.Funcs[f] = g
		if err := check.Module(n); err != nil {
			t.Errorf("%s: trimmed: %v", what, err)
			return
		}
		if len(g.Blocks) == len(m.Funcs[f].Blocks) {
			return
		}
		for i := range m.Funcs {
			steps := r.Intn(400)
			want, err := run.Run(m, i, make([]int64, m.Funcs[i].Params), steps)
			got, err2 := run.Run(n, i, make([]int64, m.Funcs[i].Params), steps)
			if err != nil || err2 != nil || !same(got, want) {
				t.Errorf("%s: function %d, with %d steps: %v, %v, want %v, %v", what, i, steps, got, err2, want, err)
			}
			seen.Add("done", want.Done)
			seen.Add("not done", !want.Done)
		}
	})
	seen.Enough(t, "done", "not done")
}

// P5.3, R2: what is handed in stays as it is.
func TestHandedInStays(t *testing.T) {
	eachOdd(t, 6, func(what string, f api.Func) {
		was := sample.Copy(f)
		graph.Next(f)
		unchanged(t, what+", Next", f, was)
		graph.Reached(f)
		unchanged(t, what+", Reached", f, was)
		graph.Order(f)
		unchanged(t, what+", Order", f, was)
		graph.Trim(f)
		unchanged(t, what+", Trim", f, was)
	})
}

// fill writes over a list, and behind it as far as its memory goes.
func fill(l []int) {
	l = l[:cap(l)]
	for i := range l {
		l[i] = -99
	}
}

// listsOf are all lists of numbers in a function.
func listsOf(f api.Func) [][]int {
	l := [][]int{f.Regs}
	for _, b := range f.Blocks {
		l = append(l, b.Term.To)
		for _, p := range b.Phis {
			l = append(l, p.Args)
		}
		for _, in := range b.Ins {
			l = append(l, in.Args)
		}
	}
	return l
}

// overwrite writes over all of a function.
func overwrite(f api.Func) {
	for _, l := range listsOf(f) {
		fill(l)
	}
	for i := range f.Blocks {
		b := &f.Blocks[i]
		for j := range b.Phis[:cap(b.Phis)] {
			b.Phis[:cap(b.Phis)][j] = api.Phi{Dst: -99}
		}
		for j := range b.Ins[:cap(b.Ins)] {
			b.Ins[:cap(b.Ins)][j] = api.Instr{Op: -99}
		}
	}
	for i := range f.Blocks[:cap(f.Blocks)] {
		f.Blocks[:cap(f.Blocks)][i] = api.Block{Term: api.Term{Kind: -99}}
	}
}

// P5.3, R2: what is told is new memory: written over it changes neither what
// was handed in nor what was told before.
func TestToldIsNew(t *testing.T) {
	eachOdd(t, 7, func(what string, f api.Func) {
		was := sample.Copy(f)
		next, reached, order := graph.Next(f), graph.Reached(f), graph.Order(f)
		g, numbers := graph.Trim(f)
		told := fmt.Sprint(next, reached, order, g, numbers)
		for _, l := range graph.Next(f) {
			fill(l)
		}
		fill(graph.Order(f))
		clear(graph.Reached(f))
		h, n := graph.Trim(f)
		overwrite(h)
		fill(n)
		unchanged(t, what, f, was)
		overwrite(f)
		if now := fmt.Sprint(next, reached, order, g, numbers); now != told {
			t.Errorf("%s: told\n%s, now it is\n%s", what, told, now)
		}
	})
}

// P5.3, R2: no two lists of one answer share any.
func TestListsApart(t *testing.T) {
	eachOdd(t, 8, func(what string, f api.Func) {
		apart(t, what+", Next", graph.Next(f))
		g, numbers := graph.Trim(f)
		apart(t, what+", Trim", append(listsOf(g), numbers))
	})
	f := ways([]int{1, 2}, []int{2}, []int{1})
	f.Regs = f.Blocks[0].Term.To
	for i := range f.Blocks {
		f.Blocks[i].Phis = []api.Phi{{Args: f.Regs}}
		f.Blocks[i].Ins = []api.Instr{{Args: f.Regs}, {Args: f.Regs}}
		f.Blocks[i].Term.To = f.Regs
	}
	g, numbers := graph.Trim(f)
	apart(t, "of lists that are one", append(listsOf(g), numbers))
}

// apart holds that what is written over one list isn't seen in another one.
func apart(t *testing.T, what string, lists [][]int) {
	t.Helper()
	for i, l := range lists {
		others := slices.Delete(slices.Clone(lists), i, i+1)
		was := fmt.Sprint(others)
		fill(l)
		if fmt.Sprint(others) != was {
			t.Errorf("%s: list %d shares with another one", what, i)
		}
	}
}
