package lower_test

import (
	"math"
	"slices"
	"testing"

	"fettle/lower"
)

// P14.2: the chapter's example: two that change places.
func TestExample(t *testing.T) {
	moves(t, "two that change places", pairs{{1, 2}, {2, 1}}, 3, pairs{{3, 2}, {2, 1}, {1, 3}}, 2)
}

// P14.2: of none nothing is done, whatever is next.
func TestNoMoves(t *testing.T) {
	for _, next := range []int{0, 1, 7, math.MaxInt, -1, math.MinInt} {
		moves(t, "nil", nil, next, nil)
		moves(t, "none", pairs{}, next, nil)
	}
}

// P14.2: what is free is done in its order: the first one always.
func TestFree(t *testing.T) {
	moves(t, "one", pairs{{1, 0}}, 2, pairs{{1, 0}})
	moves(t, "one down", pairs{{0, 1}}, 2, pairs{{0, 1}})
	moves(t, "of the same", pairs{{3, 0}, {1, 0}, {2, 0}}, 4, pairs{{3, 0}, {1, 0}, {2, 0}})
	moves(t, "each ahead of the one that it moves from", pairs{{1, 2}, {2, 3}, {3, 4}}, 5, pairs{{1, 2}, {2, 3}, {3, 4}})
	moves(t, "the other way round", pairs{{2, 1}, {3, 2}, {4, 3}}, 5, pairs{{4, 3}, {3, 2}, {2, 1}})
	moves(t, "apart", pairs{{9, 8}, {7, 6}, {5, 4}}, 10, pairs{{9, 8}, {7, 6}, {5, 4}})
	moves(t, "the first one is free last", pairs{{1, 0}, {2, 1}, {3, 1}}, 4, pairs{{2, 1}, {3, 1}, {1, 0}})
}

// P14.2: what gets free comes ahead of what is free and stands behind it, and
// behind what is free and stands ahead of it.
func TestGetsFree(t *testing.T) {
	moves(t, "ahead of another one", pairs{{2, 1}, {3, 2}, {5, 4}}, 6, pairs{{3, 2}, {2, 1}, {5, 4}})
	moves(t, "behind another one", pairs{{2, 1}, {5, 4}, {3, 2}, {6, 7}}, 8, pairs{{5, 4}, {3, 2}, {2, 1}, {6, 7}})
	moves(t, "it stands behind another one", pairs{{4, 5}, {1, 0}, {5, 6}}, 7, pairs{{4, 5}, {1, 0}, {5, 6}})
	moves(t, "by the last one of two", pairs{{1, 0}, {2, 1}, {5, 4}, {3, 1}, {7, 6}}, 8, pairs{{2, 1}, {5, 4}, {3, 1}, {1, 0}, {7, 6}})
	moves(t, "up and down", pairs{{2, 1}, {4, 3}, {3, 2}, {5, 6}, {1, 0}}, 7, pairs{{4, 3}, {3, 2}, {2, 1}, {5, 6}, {1, 0}})
}

// P14.2: a ring's first one moves from a new register, that is made just ahead.
func TestRings(t *testing.T) {
	moves(t, "of two, the other way round", pairs{{2, 1}, {1, 2}}, 3, pairs{{3, 1}, {1, 2}, {2, 3}}, 1)
	moves(t, "of three", pairs{{1, 2}, {2, 3}, {3, 1}}, 4, pairs{{4, 2}, {2, 3}, {3, 1}, {1, 4}}, 2)
	moves(t, "of three, turned", pairs{{2, 3}, {3, 1}, {1, 2}}, 4, pairs{{4, 3}, {3, 1}, {1, 2}, {2, 4}}, 3)
	moves(t, "of three, the other way round", pairs{{2, 1}, {3, 2}, {1, 3}}, 4, pairs{{4, 1}, {1, 3}, {3, 2}, {2, 4}}, 1)
	moves(t, "of register 0", pairs{{0, 1}, {1, 0}}, 2, pairs{{2, 1}, {1, 0}, {0, 2}}, 1)
	moves(t, "next is far above", pairs{{1, 2}, {2, 1}}, 1000, pairs{{1000, 2}, {2, 1}, {1, 1000}}, 2)
	moves(t, "two of them, by turns", pairs{{1, 2}, {3, 4}, {2, 1}, {4, 3}}, 5,
		pairs{{5, 2}, {2, 1}, {1, 5}, {6, 4}, {4, 3}, {3, 6}}, 2, 4)
	moves(t, "one in another one", pairs{{3, 4}, {1, 2}, {2, 1}, {4, 3}}, 9,
		pairs{{9, 4}, {4, 3}, {3, 9}, {10, 2}, {2, 1}, {1, 10}}, 4, 2)
	moves(t, "three of them", pairs{{0, 1}, {1, 0}, {2, 3}, {3, 2}, {4, 5}, {5, 4}}, 6,
		pairs{{6, 1}, {1, 0}, {0, 6}, {7, 3}, {3, 2}, {2, 7}, {8, 5}, {5, 4}, {4, 8}}, 1, 3, 5)
}

// P14.2: what moves from a ring's registers besides is done ahead of it; a new
// register is made though such a one is a copy already.
func TestBesideRings(t *testing.T) {
	moves(t, "behind", pairs{{1, 2}, {2, 1}, {3, 1}}, 4, pairs{{3, 1}, {4, 2}, {2, 1}, {1, 4}}, 2)
	moves(t, "ahead", pairs{{3, 2}, {1, 2}, {2, 1}}, 4, pairs{{3, 2}, {4, 2}, {2, 1}, {1, 4}}, 2)
	moves(t, "a row of them", pairs{{1, 2}, {3, 1}, {2, 1}, {4, 3}}, 5, pairs{{4, 3}, {3, 1}, {5, 2}, {2, 1}, {1, 5}}, 2)
	moves(t, "apart", pairs{{1, 2}, {2, 1}, {4, 3}}, 5, pairs{{4, 3}, {5, 2}, {2, 1}, {1, 5}}, 2)
}

// P14.2: a move of a register to itself is a move as others are.
func TestToItself(t *testing.T) {
	moves(t, "alone", pairs{{1, 1}}, 2, pairs{{1, 1}})
	moves(t, "two", pairs{{1, 1}, {0, 0}}, 2, pairs{{1, 1}, {0, 0}})
	moves(t, "another one moves from it", pairs{{1, 1}, {2, 1}}, 3, pairs{{2, 1}, {1, 1}})
	moves(t, "none is free but by it", pairs{{1, 1}, {2, 3}, {3, 2}}, 4, pairs{{1, 1}, {4, 3}, {3, 2}, {2, 4}}, 3)
	moves(t, "behind a ring", pairs{{2, 3}, {3, 2}, {1, 1}}, 4, pairs{{1, 1}, {4, 3}, {3, 2}, {2, 4}}, 3)
}

// P14.2: wrong numbers: below 0, not below next, one first number twice.
func TestWrongMoves(t *testing.T) {
	for _, n := range []int{-1, -2, math.MinInt} {
		noMoves(t, "a first one below 0", pairs{{n, 0}}, 1)
		noMoves(t, "a second one below 0", pairs{{0, n}}, 1)
		noMoves(t, "one of many", pairs{{1, 2}, {2, 1}, {3, n}}, 9)
	}
	for _, next := range []int{5, 4, 0, -1, math.MinInt} {
		noMoves(t, "next is a first one, or below", pairs{{1, 2}, {5, 3}}, next)
		noMoves(t, "next is a second one, or below", pairs{{3, 2}, {1, 5}}, next)
		noMoves(t, "next is both, or below", pairs{{5, 5}}, next)
	}
	moves(t, "next is just above", pairs{{3, 2}, {1, 5}}, 6, pairs{{3, 2}, {1, 5}})
	noMoves(t, "the greatest", pairs{{0, math.MaxInt}}, math.MaxInt)
	moves(t, "one below the greatest", pairs{{0, math.MaxInt - 1}}, math.MaxInt, pairs{{0, math.MaxInt - 1}})
	moves(t, "a ring below the greatest", pairs{{0, 1}, {1, 0}}, math.MaxInt, pairs{{math.MaxInt, 1}, {1, 0}, {0, math.MaxInt}}, 1)
	noMoves(t, "the same twice", pairs{{1, 2}, {1, 2}}, 3)
	noMoves(t, "to one from two", pairs{{1, 2}, {0, 2}, {1, 0}}, 3)
	noMoves(t, "to itself, and from another one", pairs{{1, 1}, {1, 2}}, 3)
}

// P1, P14.2: many moves are done in a time that is as long as they are many.
func TestManyMoves(t *testing.T) {
	const many = 300000
	var row, ring, want pairs
	for r := range many {
		row = append(row, [2]int{r + 1, r})
	}
	want = slices.Clone(row)
	slices.Reverse(want)
	moves(t, "a row", row, many+1, want)
	moves(t, "a row, the other way round", want, many+1, want)
	ring = append(slices.Clone(row), [2]int{0, many})
	want = append(pairs{{many + 1, 0}, {0, many}}, want...)
	want[len(want)-1] = [2]int{1, many + 1}
	moves(t, "a ring", ring, many+1, want, 0)
	var rings pairs
	for r := 0; r < many; r += 2 {
		rings = append(rings, [2]int{r, r + 1}, [2]int{r + 1, r})
	}
	if done, from, err := lower.Moves(rings, many); err != nil || len(done) != many/2*3 || len(from) != many/2 {
		t.Error(len(done), len(from), err)
	}
	var fan pairs
	for r := range many {
		fan = append(fan, [2]int{r, many})
	}
	moves(t, "a fan", fan, many+1, fan)
}
