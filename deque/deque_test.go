package deque_test

import (
	"math"
	"slices"
	"testing"

	"fettle/api"
	"fettle/deque"
)

// The chapter's example.
func TestExample(t *testing.T) {
	d := filled(t, 7)
	popped(t, d, true, 7)
	empty(t, d)
}

// P11.1: a deque has nothing at first.
func TestNew(t *testing.T) {
	d := deque.New()
	if d == nil {
		t.Fatal("New(): nil")
	}
	stateIs(t, d, 0, 0)
	empty(t, d)
	stateIs(t, d, 0, 0)
}

// P11.1: whoever begins has done no step.
func TestBegun(t *testing.T) {
	d := filled(t, 1, 2)
	begunSteal(t, d)
	begunPush(t, d, 3)
	stateIs(t, d, 0, 2)
	d = filled(t, 1, 2)
	begunSteal(t, d)
	begunPop(t, d)
	stateIs(t, d, 0, 2)
}

// P11.1, R3: while the owner's operation is under way he begins no other one,
// thieves do, as many as they like.
func TestOneAtATime(t *testing.T) {
	d := deque.New()
	for range 2 {
		o := begunPush(t, d, 5)
		for range 3 {
			ownerWaits(t, d)
			begunSteal(t, d)
			goesOn(t, d, o, 1)
		}
		ownerWaits(t, d)
		ends(t, d, o, api.GotValue, 5)
	}
	for i, steps := range []int{2, 4, 2} { // one of several, the last one, nothing
		o := begunPop(t, d)
		for range steps {
			ownerWaits(t, d)
			begunSteal(t, d)
			goesOn(t, d, o, 1)
		}
		ownerWaits(t, d)
		if i < 2 {
			ends(t, d, o, api.GotValue, 5)
		} else {
			ends(t, d, o, api.GotNothing, 0)
		}
	}
	begunSteal(t, d)
	begunPush(t, d, 6)
}

// P11.1: the owner goes on behind what was full, and while thieves are under
// way.
func TestGoesOnBehindFull(t *testing.T) {
	d := filled(t, upTo(0, 64)...)
	o := begunPush(t, d, 64)
	ownerWaits(t, d)
	goesOn(t, d, o, 1)
	ownerWaits(t, d)
	ends(t, d, o, api.GotFull, 0)
	steal := begunSteal(t, d)
	goesOn(t, d, steal, 3)
	popped(t, d, false, 63)
}

// The table of Push: step by step, Bottom moves at the last one.
func TestPushSteps(t *testing.T) {
	d := filled(t, 1)
	o := begunPush(t, d, 2)
	for range 3 {
		goesOn(t, d, o, 1)
		stateIs(t, d, 0, 1)
	}
	ends(t, d, o, api.GotValue, 2)
	stateIs(t, d, 0, 2)
	popped(t, d, true, 2, 1)
}

// The table of Push: what is written isn't there for a thief till Bottom moves.
func TestPushedAtLast(t *testing.T) {
	d := deque.New()
	o := begunPush(t, d, 8)
	goesOn(t, d, o, 3)
	s := begunSteal(t, d)
	goesOn(t, d, s, 1)
	ends(t, d, s, api.GotNothing, 0)
	late := begunSteal(t, d)
	goesOn(t, d, late, 1)
	ends(t, d, o, api.GotValue, 8)
	goesOn(t, d, late, 2)
	ends(t, d, late, api.GotValue, 8)
}

// The table of Push: Top is read at the second step, neither ahead of it nor
// behind it.
func TestPushReadsTop(t *testing.T) {
	d := filled(t, upTo(0, 64)...)
	o := begunPush(t, d, 64)
	goesOn(t, d, o, 1)
	stolen(t, d, 0)
	goesOn(t, d, o, 2)
	ends(t, d, o, api.GotValue, 64)
	stateIs(t, d, 1, 65)

	o = begunPush(t, d, 65)
	goesOn(t, d, o, 1)
	ends(t, d, o, api.GotFull, 0)
	stolen(t, d, 1)
	resultIs(t, o, api.GotFull, 0)
	stateIs(t, d, 2, 65)
}

// The table of Push: so many may be there, and one more changes nothing; the
// cells are taken round, as often as one likes.
func TestFull(t *testing.T) {
	d := filled(t, upTo(0, 64)...)
	stateIs(t, d, 0, 64)
	for range 3 {
		refusesPush(t, d, 77)
		stateIs(t, d, 0, 64)
	}
	for v := range 300 {
		stolen(t, d, v)
		pushed(t, d, v+64)
		refusesPush(t, d, 77)
		stateIs(t, d, v+1, v+65)
	}
	popped(t, d, false, 363, 362)
	stateIs(t, d, 300, 362)
	pushed(t, d, -1, -2)
	refusesPush(t, d, 77)
	popped(t, d, false, -2, -1)
	rest := upTo(300, 362)
	slices.Reverse(rest)
	popped(t, d, true, rest...)
	stateIs(t, d, 301, 301)
	empty(t, d)
}

// The table of Pop: of several the last one, with three steps; Bottom moves at
// the first.
func TestPopOfSeveral(t *testing.T) {
	d := filled(t, 4, 5, 6)
	o := begunPop(t, d)
	stateIs(t, d, 0, 3)
	for range 2 {
		goesOn(t, d, o, 1)
		stateIs(t, d, 0, 2)
	}
	ends(t, d, o, api.GotValue, 6)
	stateIs(t, d, 0, 2)
}

// The table of Pop: of one, with five steps; Top moves at the fourth, Bottom
// at the first and the last.
func TestPopOfOne(t *testing.T) {
	d := filled(t, 4)
	o := begunPop(t, d)
	for range 3 {
		goesOn(t, d, o, 1)
		stateIs(t, d, 0, 0)
	}
	goesOn(t, d, o, 1)
	stateIs(t, d, 1, 0)
	ends(t, d, o, api.GotValue, 4)
	stateIs(t, d, 1, 1)
	empty(t, d)
	pushed(t, d, 5)
	stateIs(t, d, 1, 2)
	popped(t, d, true, 5)
}

// The table of Pop: of none, with three steps; Bottom is below Top meanwhile.
func TestPopOfNone(t *testing.T) {
	d := deque.New()
	o := begunPop(t, d)
	for range 2 {
		goesOn(t, d, o, 1)
		stateIs(t, d, 0, -1)
	}
	ends(t, d, o, api.GotNothing, 0)
	stateIs(t, d, 0, 0)
	pushed(t, d, 3)
	popped(t, d, true, 3)
}

// The table of Pop: a thief who had looked ahead takes the last one ahead of
// the second step, at which Top is read: nothing, with three steps.
func TestPopTooLate(t *testing.T) {
	d := filled(t, 4)
	s := begunSteal(t, d)
	goesOn(t, d, s, 3)
	o := begunPop(t, d)
	goesOn(t, d, o, 1)
	ends(t, d, s, api.GotValue, 4)
	stateIs(t, d, 1, 0)
	goesOn(t, d, o, 1)
	ends(t, d, o, api.GotNothing, 0)
	stateIs(t, d, 1, 1)
	empty(t, d)
}

// The table of Pop: the thief takes it behind that, ahead of the fourth step:
// nothing, with five; the cell isn't told.
func TestPopLoses(t *testing.T) {
	for steps := 2; steps <= 3; steps++ {
		d := filled(t, 4)
		s := begunSteal(t, d)
		goesOn(t, d, s, 3)
		o := begunPop(t, d)
		goesOn(t, d, o, steps)
		ends(t, d, s, api.GotValue, 4)
		goesOn(t, d, o, 4-steps)
		stateIs(t, d, 1, 0)
		ends(t, d, o, api.GotNothing, 0)
		stateIs(t, d, 1, 1)
		empty(t, d)
	}
}

// The table of Pop: the thief comes behind the fourth step: he has lost.
func TestPopWins(t *testing.T) {
	for steps := 4; steps <= 5; steps++ {
		d := filled(t, 4)
		s := begunSteal(t, d)
		goesOn(t, d, s, 3)
		o := begunPop(t, d)
		goesOn(t, d, o, 4)
		if steps == 4 {
			ends(t, d, s, api.GotLost, 0)
			ends(t, d, o, api.GotValue, 4)
		} else {
			ends(t, d, o, api.GotValue, 4)
			ends(t, d, s, api.GotLost, 0)
		}
		stateIs(t, d, 1, 1)
		empty(t, d)
	}
}

// The table of Pop: whether it is the only one hangs on Top as it was read at
// the second step. What thieves take behind that changes nothing.
func TestPopOfTwo(t *testing.T) {
	d := filled(t, 4, 5)
	s := begunSteal(t, d)
	goesOn(t, d, s, 3)
	o := begunPop(t, d)
	goesOn(t, d, o, 2)
	ends(t, d, s, api.GotValue, 4)
	ends(t, d, o, api.GotValue, 5)
	stateIs(t, d, 1, 1)
	empty(t, d)

	pushed(t, d, 6, 7)
	s = begunSteal(t, d)
	goesOn(t, d, s, 3)
	o = begunPop(t, d)
	goesOn(t, d, o, 1)
	ends(t, d, s, api.GotValue, 6)
	goesOn(t, d, o, 3)
	ends(t, d, o, api.GotValue, 7)
	stateIs(t, d, 3, 3)
	empty(t, d)
}

// The table of Steal: the first one, with four steps; Top moves at the last.
func TestStealSteps(t *testing.T) {
	d := filled(t, 4, 5, 6)
	for v := 4; v <= 6; v++ {
		o := begunSteal(t, d)
		for range 3 {
			goesOn(t, d, o, 1)
			stateIs(t, d, v-4, 3)
		}
		ends(t, d, o, api.GotValue, v)
		stateIs(t, d, v-3, 3)
	}
	empty(t, d)
	stateIs(t, d, 3, 3)
}

// The table of Steal: while a pop is under way, Bottom is one less: its number
// isn't there for a thief who comes then.
func TestStealWhilePop(t *testing.T) {
	for steps := 1; steps <= 3; steps++ {
		d := filled(t, 4)
		o := begunPop(t, d)
		goesOn(t, d, o, steps)
		s := begunSteal(t, d)
		goesOn(t, d, s, 1)
		ends(t, d, s, api.GotNothing, 0)
		goesOn(t, d, o, 4-steps)
		ends(t, d, o, api.GotValue, 4)
	}
	d := filled(t, 4)
	o := begunPop(t, d)
	goesOn(t, d, o, 4)
	s := begunSteal(t, d)
	goesOn(t, d, s, 1)
	ends(t, d, s, api.GotNothing, 0) // Top 1, Bottom 0
	ends(t, d, o, api.GotValue, 4)
	stateIs(t, d, 1, 1)
}

// The table of Steal: Top is read at the first step, Bottom at the second.
func TestStealReadsBottom(t *testing.T) {
	d := deque.New()
	s := begunSteal(t, d)
	goesOn(t, d, s, 1)
	pushed(t, d, 4)
	goesOn(t, d, s, 2)
	ends(t, d, s, api.GotValue, 4)

	pushed(t, d, 5)
	s = begunSteal(t, d)
	popped(t, d, true, 5)
	goesOn(t, d, s, 1)
	ends(t, d, s, api.GotNothing, 0)

	pushed(t, d, 6)
	s = begunSteal(t, d)
	goesOn(t, d, s, 1)
	popped(t, d, true, 6)
	pushed(t, d, 7, 8)
	goesOn(t, d, s, 2)
	ends(t, d, s, api.GotLost, 0) // 7 is at another Top
	stolen(t, d, 7, 8)
}

// The table of Steal: of some thieves who read the same Top, the first one who
// comes to the fourth step takes, all others have lost, though more is left.
func TestThieves(t *testing.T) {
	d := filled(t, 4, 5, 6)
	var thieves []*deque.Op
	for i := range 4 {
		thieves = append(thieves, begunSteal(t, d))
		goesOn(t, d, thieves[i], i)
	}
	for i, o := range thieves {
		goesOn(t, d, o, 3-i)
	}
	ends(t, d, thieves[2], api.GotValue, 4)
	for _, i := range []int{0, 3, 1} {
		ends(t, d, thieves[i], api.GotLost, 0)
	}
	stateIs(t, d, 1, 3)
	stolen(t, d, 5, 6)
}

// The table of Steal: a thief who stays behind has lost, even where his cell
// holds another number meanwhile, 64 further on.
func TestStealOfOldCell(t *testing.T) {
	for steps := range 4 {
		d := filled(t, upTo(0, 64)...)
		s := begunSteal(t, d)
		goesOn(t, d, s, steps)
		stolen(t, d, 0)
		pushed(t, d, 64)
		goesOn(t, d, s, 3-steps)
		if steps == 0 {
			ends(t, d, s, api.GotValue, 1)
			stolen(t, d, 2)
		} else {
			ends(t, d, s, api.GotLost, 0)
			stateIs(t, d, 1, 65)
			stolen(t, d, 1, 2)
		}
	}
}

// P11.1: Top and Bottom count on, they aren't taken round.
func TestStateCountsOn(t *testing.T) {
	d := deque.New()
	for v := range 1000 {
		pushed(t, d, v)
		if v%2 == 0 {
			stolen(t, d, v)
		} else {
			popped(t, d, true, v)
		}
		stateIs(t, d, v+1, v+1)
	}
	empty(t, d)
}

// P11.2, R3: no operation, or another deque's, whether it is done or not (R1),
// is refused, and changes nothing of either.
func TestStepFailsOfOthers(t *testing.T) {
	d, other := filled(t, 1, 2), filled(t, 3)
	stepFails(t, d, nil, api.ErrArg)
	stepFails(t, d, &deque.Op{}, api.ErrArg)
	push, steal := begunPush(t, other, 4), begunSteal(t, other)
	stepFails(t, d, push, api.ErrArg)
	stepFails(t, d, steal, api.ErrArg)
	resultIs(t, push, api.GotOpen, 0)
	resultIs(t, steal, api.GotOpen, 0)
	goesOn(t, other, push, 3)
	ends(t, other, push, api.GotValue, 4)
	goesOn(t, other, steal, 3)
	ends(t, other, steal, api.GotValue, 3)
	stepFails(t, d, push, api.ErrArg)
	stepFails(t, d, steal, api.ErrArg)
	pop := begunPop(t, other)
	stepFails(t, d, pop, api.ErrArg)
	stateIs(t, d, 0, 2)
	stateIs(t, other, 1, 2)
	popped(t, d, true, 2, 1)
	goesOn(t, other, pop, 4)
	ends(t, other, pop, api.GotValue, 4)
}

// P11.2, R3: what is done is refused, however it ended, and changes nothing.
func TestStepFailsOfDone(t *testing.T) {
	d := filled(t, 1)
	var done []*deque.Op
	for i, v := range []int{2, 3} {
		o := begunPush(t, d, v)
		goesOn(t, d, o, 3)
		ends(t, d, o, api.GotValue, v)
		stateIs(t, d, 0, 2+i)
		done = append(done, o)
	}
	took, lost, pop := begunSteal(t, d), begunSteal(t, d), begunPop(t, d)
	goesOn(t, d, took, 3)
	goesOn(t, d, lost, 3)
	goesOn(t, d, pop, 2)
	ends(t, d, took, api.GotValue, 1)
	ends(t, d, lost, api.GotLost, 0)
	ends(t, d, pop, api.GotValue, 3)
	popped(t, d, true, 2)
	none, nothing := begunSteal(t, d), begunPop(t, d)
	goesOn(t, d, none, 1)
	ends(t, d, none, api.GotNothing, 0)
	goesOn(t, d, nothing, 2)
	ends(t, d, nothing, api.GotNothing, 0)
	done = append(done, took, lost, pop, none, nothing)
	for range 3 {
		for _, o := range done {
			how, number := o.Result()
			stepFails(t, d, o, api.ErrState)
			resultIs(t, o, how, number)
			stateIs(t, d, 2, 2)
		}
	}
	full := filled(t, upTo(0, 64)...)
	o := begunPush(t, full, 64)
	goesOn(t, full, o, 1)
	ends(t, full, o, api.GotFull, 0)
	stepFails(t, full, o, api.ErrState)
	stateIs(t, full, 0, 64)
}

// P11.2: a step that is refused doesn't set the owner's operation free, nor
// does a thief's last one.
func TestStillUnderWay(t *testing.T) {
	d := filled(t, 1, 2)
	before := begunPush(t, d, 3)
	goesOn(t, d, before, 3)
	ends(t, d, before, api.GotValue, 3)
	o := begunPop(t, d)
	stepFails(t, d, before, api.ErrState)
	ownerWaits(t, d)
	stepFails(t, d, nil, api.ErrArg)
	ownerWaits(t, d)
	stolen(t, d, 1)
	ownerWaits(t, d)
	goesOn(t, d, o, 2)
	ends(t, d, o, api.GotValue, 3)
	popped(t, d, true, 2)
}

// P11.3: how an operation ended is told as often as one asks, whatever is done
// later.
func TestResultStays(t *testing.T) {
	d := deque.New()
	push := begunPush(t, d, 9)
	goesOn(t, d, push, 3)
	ends(t, d, push, api.GotValue, 9)
	pushed(t, d, 10, 11)
	steal, lost := begunSteal(t, d), begunSteal(t, d)
	goesOn(t, d, steal, 3)
	goesOn(t, d, lost, 3)
	ends(t, d, steal, api.GotValue, 9)
	ends(t, d, lost, api.GotLost, 0)
	pop := begunPop(t, d)
	goesOn(t, d, pop, 2)
	ends(t, d, pop, api.GotValue, 11)
	pushed(t, d, upTo(100, 163)...)
	refusesPush(t, d, 1)
	for range 2 {
		resultIs(t, push, api.GotValue, 9)
		resultIs(t, steal, api.GotValue, 9)
		resultIs(t, lost, api.GotLost, 0)
		resultIs(t, pop, api.GotValue, 11)
	}
}

// P11.3, P1: numbers are of any size, and may come again.
func TestNumbers(t *testing.T) {
	all := []int{0, -1, 1, math.MaxInt, math.MinInt, math.MinInt + 1, 0, 64, -64, 63, 1 << 32, -1 << 32, 0, 7, 7}
	d := filled(t, all...)
	stolen(t, d, all...)
	empty(t, d)
	pushed(t, d, all...)
	slices.Reverse(all)
	popped(t, d, true, all...)
	empty(t, d)
}

// P11.4: operations are new each time, and deques have nothing to do with one
// another.
func TestNewMemory(t *testing.T) {
	a, b := deque.New(), deque.New()
	if a == b {
		t.Error("New(): the same twice")
	}
	o, p := begunPush(t, a, 1), begunPush(t, b, 2)
	goesOn(t, a, o, 3)
	ends(t, a, o, api.GotValue, 1)
	stateIs(t, b, 0, 0)
	ownerWaits(t, b)
	goesOn(t, b, p, 3)
	ends(t, b, p, api.GotValue, 2)
	first, second := begunSteal(t, a), begunSteal(t, a)
	if first == second {
		t.Error("Steal(): the same twice")
	}
	goesOn(t, a, first, 3)
	goesOn(t, a, second, 2)
	ends(t, a, first, api.GotValue, 1)
	if q := begunPush(t, a, 3); q == o {
		t.Error("Push(3): what was told ahead")
	}
	goesOn(t, a, second, 1)
	ends(t, a, second, api.GotLost, 0)
	popped(t, b, true, 2)
	empty(t, b)
}
