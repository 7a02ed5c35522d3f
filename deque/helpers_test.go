package deque_test

import (
	"errors"
	"testing"

	"fettle/api"
	"fettle/deque"
)

// stateIs holds Top and Bottom.
func stateIs(t *testing.T, d *deque.Deque, top, bottom int) {
	t.Helper()
	if gotTop, gotBottom := d.State(); gotTop != top || gotBottom != bottom {
		t.Errorf("State(): %d, %d, want %d, %d", gotTop, gotBottom, top, bottom)
	}
}

// begunPush, begunPop and begunSteal are operations of which no step is done.
func begunPush(t *testing.T, d *deque.Deque, v int) *deque.Op {
	t.Helper()
	o, err := d.Push(v)
	if o == nil || err != nil {
		t.Fatalf("Push(%d): %v, %v", v, o, err)
	}
	resultIs(t, o, api.GotOpen, 0)
	return o
}

func begunPop(t *testing.T, d *deque.Deque) *deque.Op {
	t.Helper()
	o, err := d.Pop()
	if o == nil || err != nil {
		t.Fatalf("Pop(): %v, %v", o, err)
	}
	resultIs(t, o, api.GotOpen, 0)
	return o
}

func begunSteal(t *testing.T, d *deque.Deque) *deque.Op {
	t.Helper()
	o := d.Steal()
	if o == nil {
		t.Fatal("Steal(): nil")
	}
	resultIs(t, o, api.GotOpen, 0)
	return o
}

// resultIs holds how an operation ended, or that it didn't.
func resultIs(t *testing.T, o *deque.Op, how, number int) {
	t.Helper()
	if gotHow, gotNumber := o.Result(); gotHow != how || gotNumber != number {
		t.Errorf("Result(): %d, %d, want %d, %d", gotHow, gotNumber, how, number)
	}
}

// goesOn does so many steps, none of which is the last one.
func goesOn(t *testing.T, d *deque.Deque, o *deque.Op, steps int) {
	t.Helper()
	for i := range steps {
		if done, err := d.Step(o); done || err != nil {
			t.Errorf("Step, the %d-th: %t, %v, want false", i, done, err)
		}
		resultIs(t, o, api.GotOpen, 0)
	}
}

// ends does the last step.
func ends(t *testing.T, d *deque.Deque, o *deque.Op, how, number int) {
	t.Helper()
	if done, err := d.Step(o); !done || err != nil {
		t.Errorf("Step, the last one: %t, %v, want true", done, err)
	}
	resultIs(t, o, how, number)
}

// stepFails holds that a step is refused so: the error itself, and false.
func stepFails(t *testing.T, d *deque.Deque, o *deque.Op, want api.Code) {
	t.Helper()
	if done, err := d.Step(o); done || err != want || !errors.Is(err, want) {
		t.Errorf("Step: %t, %v, want false, %v", done, err, want)
	}
}

// ownerWaits holds that the owner's operation is under way: no other one is
// begun.
func ownerWaits(t *testing.T, d *deque.Deque) {
	t.Helper()
	if o, err := d.Push(99); o != nil || err != api.ErrState || !errors.Is(err, api.ErrState) {
		t.Errorf("Push(99): %v, %v, want nil, %v", o, err, api.ErrState)
	}
	if o, err := d.Pop(); o != nil || err != api.ErrState || !errors.Is(err, api.ErrState) {
		t.Errorf("Pop(): %v, %v, want nil, %v", o, err, api.ErrState)
	}
}

// pushed puts these numbers, each with all four steps.
func pushed(t *testing.T, d *deque.Deque, all ...int) {
	t.Helper()
	for _, v := range all {
		o := begunPush(t, d, v)
		goesOn(t, d, o, 3)
		ends(t, d, o, api.GotValue, v)
	}
}

// filled is a deque to which these were put.
func filled(t *testing.T, all ...int) *deque.Deque {
	t.Helper()
	d := deque.New()
	pushed(t, d, all...)
	return d
}

// refusesPush holds that a number isn't put, since the deque is full, which is
// seen at the second step.
func refusesPush(t *testing.T, d *deque.Deque, v int) {
	t.Helper()
	o := begunPush(t, d, v)
	goesOn(t, d, o, 1)
	ends(t, d, o, api.GotFull, 0)
}

// stolen takes these numbers as a thief, each with all four steps.
func stolen(t *testing.T, d *deque.Deque, all ...int) {
	t.Helper()
	for _, v := range all {
		o := begunSteal(t, d)
		goesOn(t, d, o, 3)
		ends(t, d, o, api.GotValue, v)
	}
}

// popped takes these numbers as the owner, the last of all of them if last.
func popped(t *testing.T, d *deque.Deque, last bool, all ...int) {
	t.Helper()
	for i, v := range all {
		o := begunPop(t, d)
		goesOn(t, d, o, 2)
		if last && i == len(all)-1 {
			goesOn(t, d, o, 2)
		}
		ends(t, d, o, api.GotValue, v)
	}
}

// empty holds that nothing is left, for the owner or a thief, and that asking
// changes nothing.
func empty(t *testing.T, d *deque.Deque) {
	t.Helper()
	top, bottom := d.State()
	pop := begunPop(t, d)
	goesOn(t, d, pop, 2)
	ends(t, d, pop, api.GotNothing, 0)
	steal := begunSteal(t, d)
	goesOn(t, d, steal, 1)
	ends(t, d, steal, api.GotNothing, 0)
	stateIs(t, d, top, bottom)
	if top != bottom {
		t.Errorf("State(): %d, %d, but nothing is left", top, bottom)
	}
}

// upTo are the numbers from one on, ahead of another.
func upTo(from, to int) []int {
	var l []int
	for v := from; v < to; v++ {
		l = append(l, v)
	}
	return l
}
