package deque

import "fettle/api"

// Op is an operation that was begun. Between two of its steps it knows no more
// of its deque than what it read, which may not be so any more.
type Op struct {
	deque       *Deque
	next        func(*Op) // the next step; none, if it is done
	top, bottom int       // as they were read
	number      int       // that is pushed, or was read from a cell
	got         int       // how it ends, as far as that is known
}

// Result is how it ended: P11.3.
func (o *Op) Result() (int, int) {
	if !o.done() {
		return api.GotOpen, 0
	}
	if o.got != api.GotValue {
		return o.got, 0
	}
	return o.got, o.number
}

// done tells whether no step is left.
func (o *Op) done() bool { return o.next == nil }

// end ends it so.
func (o *Op) end(got int) { o.got, o.next = got, nil }

// The steps of Push, in their order.

func (o *Op) pushReadsBottom() {
	o.bottom = o.deque.bottom
	o.next = (*Op).pushReadsTop
}

func (o *Op) pushReadsTop() {
	o.top = o.deque.top
	if o.bottom-o.top == api.MaxCells {
		o.end(api.GotFull)
		return
	}
	o.next = (*Op).pushWritesCell
}

func (o *Op) pushWritesCell() {
	*o.deque.cell(o.bottom) = o.number
	o.next = (*Op).pushRaisesBottom
}

func (o *Op) pushRaisesBottom() {
	o.deque.bottom = o.bottom + 1
	o.end(api.GotValue)
}

// The steps of Pop, in their order. Bottom is lowered ahead of all else, so
// that thieves who come then leave the last number alone.

func (o *Op) popLowersBottom() {
	o.bottom = o.deque.bottom
	o.deque.bottom = o.bottom - 1
	o.next = (*Op).popReadsTop
}

func (o *Op) popReadsTop() {
	o.top = o.deque.top
	if o.top > o.bottom-1 {
		o.got = api.GotNothing
		o.next = (*Op).popRestoresBottom
		return
	}
	o.next = (*Op).popReadsCell
}

func (o *Op) popReadsCell() {
	o.number = *o.deque.cell(o.bottom - 1)
	if o.top < o.bottom-1 {
		o.end(api.GotValue)
		return
	}
	o.next = (*Op).popRaisesTop
}

// popRaisesTop takes the only number that is left, unless a thief was faster.
func (o *Op) popRaisesTop() {
	o.got = api.GotNothing
	if o.deque.raiseTop(o.top) {
		o.got = api.GotValue
	}
	o.next = (*Op).popRestoresBottom
}

func (o *Op) popRestoresBottom() {
	o.deque.bottom = o.bottom
	o.end(o.got)
}

// The steps of Steal, in their order.

func (o *Op) stealReadsTop() {
	o.top = o.deque.top
	o.next = (*Op).stealReadsBottom
}

func (o *Op) stealReadsBottom() {
	o.bottom = o.deque.bottom
	if o.top >= o.bottom {
		o.end(api.GotNothing)
		return
	}
	o.next = (*Op).stealReadsCell
}

// stealReadsCell may read what the owner put there meanwhile; then Top isn't
// what it was either, and the number is let go.
func (o *Op) stealReadsCell() {
	o.number = *o.deque.cell(o.top)
	o.next = (*Op).stealRaisesTop
}

func (o *Op) stealRaisesTop() {
	if !o.deque.raiseTop(o.top) {
		o.end(api.GotLost)
		return
	}
	o.end(api.GotValue)
}
