package deque_test

import (
	"math/rand"
	"slices"
	"testing"

	"fettle/api"
	"fettle/deque"
)

// Kinds of operations.
const (
	push  = 10
	pop   = 20
	steal = 30
)

// row tells the chapter once more, as its words stand, but with a cell for
// each number: that the cells are taken round is never to be told.
type row struct {
	cells       []int
	top, bottom int
	under       bool // the owner's operation is under way
}

// deed is an operation on a row: how many steps of it are done, what they
// read, and how it ended.
type deed struct {
	kind, steps, v int
	b, t, x        int
	is             bool
	done           bool
	how, number    int
}

// ends ends it so.
func (o *deed) ends(how, number int) { o.done, o.how, o.number = true, how, number }

// step does the next step: a line of the chapter's table each.
func (r *row) step(o *deed) {
	o.steps++
	switch o.kind + o.steps {
	case push + 1:
		o.b = r.bottom
	case push + 2:
		if o.t = r.top; o.b-o.t == 64 {
			o.ends(3, 0)
		}
	case push + 3:
		r.cells = append(r.cells[:o.b], o.v)
	case push + 4:
		r.bottom = o.b + 1
		o.ends(1, o.v)
	case pop + 1:
		o.b = r.bottom
		r.bottom = o.b - 1
	case pop + 2:
		o.t = r.top
	case pop + 3:
		if o.t > o.b-1 {
			r.bottom = o.b
			o.ends(2, 0)
		} else if o.x = r.cells[o.b-1]; o.t < o.b-1 {
			o.ends(1, o.x)
		}
	case pop + 4:
		o.is = r.raises(o.t)
	case pop + 5:
		r.bottom = o.b
		if o.ends(2, 0); o.is {
			o.ends(1, o.x)
		}
	case steal + 1:
		o.t = r.top
	case steal + 2:
		if o.b = r.bottom; o.t >= o.b {
			o.ends(2, 0)
		}
	case steal + 3:
		o.x = r.cells[o.t]
	case steal + 4:
		if o.ends(4, 0); r.raises(o.t) {
			o.ends(1, o.x)
		}
	}
	if o.done && o.kind != steal {
		r.under = false
	}
}

// raises has Top become one more, if it is this: whether it is.
func (r *row) raises(t int) bool {
	is := r.top == t
	if is {
		r.top = t + 1
	}
	return is
}

// play is a deque and a row of which the same is asked, and what P11.5 speaks
// of: the numbers that were pushed and not taken, in their order.
type play struct {
	t    *testing.T
	d    *deque.Deque
	r    row
	left []int
	next int // the number that is pushed next: no number comes again
	ends map[way]int
}

// way is how an operation ended, behind how many steps.
type way struct{ kind, steps, how int }

// ways are all that there are.
func ways() []way {
	return []way{{push, 4, 1}, {push, 2, 3}, {pop, 3, 1}, {pop, 3, 2}, {pop, 5, 1}, {pop, 5, 2}, {steal, 2, 2}, {steal, 4, 1}, {steal, 4, 4}}
}

// act is an operation of both.
type act struct {
	op *deque.Op
	deed
}

// begin begins an operation of both; nothing, if it may not be.
func (p *play) begin(kind int) *act {
	a := &act{deed: deed{kind: kind}}
	var err error
	switch kind {
	case push:
		a.v = p.next
		p.next++
		a.op, err = p.d.Push(a.v)
	case pop:
		a.op, err = p.d.Pop()
	case steal:
		a.op = p.d.Steal()
	}
	if kind != steal && p.r.under {
		if a.op != nil || err != api.ErrState {
			p.t.Errorf("begun while the owner's is under way: %v, %v", a.op, err)
		}
		return nil
	}
	if kind != steal {
		p.r.under = true
	}
	if a.op == nil || err != nil {
		p.t.Errorf("not begun: %v, %v", a.op, err)
	}
	p.same(a)
	return a
}

// step does an operation's next step in both.
func (p *play) step(a *act) {
	p.r.step(&a.deed)
	done, err := p.d.Step(a.op)
	if done != a.done || err != nil {
		p.t.Errorf("step %d: %t, %v, want %t", a.kind+a.steps, done, err, a.done)
	}
	p.same(a)
	how, number := a.op.Result()
	if done {
		p.ends[way{a.kind, a.steps, how}]++
	}
	if how == api.GotValue {
		p.note(a.kind, number)
	}
}

// same holds that both tell the same.
func (p *play) same(a *act) {
	if top, bottom := p.d.State(); top != p.r.top || bottom != p.r.bottom {
		p.t.Errorf("behind step %d: State: %d, %d, want %d, %d", a.kind+a.steps, top, bottom, p.r.top, p.r.bottom)
	}
	if how, number := a.op.Result(); how != a.how || number != a.number {
		p.t.Errorf("behind step %d: Result: %d, %d, want %d, %d", a.kind+a.steps, how, number, a.how, a.number)
	}
}

// note notes what was pushed or taken.
func (p *play) note(kind, number int) {
	if kind == push {
		p.left = append(p.left, number)
		return
	}
	i := slices.Index(p.left, number)
	if i < 0 {
		p.t.Errorf("%d was taken twice, or never pushed", number)
		return
	}
	p.left = slices.Delete(p.left, i, i+1)
}

// drained has the owner take all that is left, while nothing is under way: the
// last one first.
func (p *play) drained() {
	if top, bottom := p.d.State(); bottom-top != len(p.left) {
		p.t.Errorf("State: %d, %d, but %v are left", top, bottom, p.left)
	}
	for len(p.left) > 0 && !p.t.Failed() {
		want := p.left[len(p.left)-1]
		a := p.begin(pop)
		p.all(a)
		if how, number := a.op.Result(); how != api.GotValue || number != want {
			p.t.Errorf("popped: %d, %d, want 1, %d", how, number, want)
		}
	}
	a := p.begin(pop)
	p.all(a)
	if how, number := a.op.Result(); how != api.GotNothing || number != 0 {
		p.t.Errorf("popped: %d, %d, but nothing is left", how, number)
	}
}

// all does all steps of an operation.
func (p *play) all(a *act) {
	for !a.done {
		p.step(a)
	}
}

// fresh is a play of a new deque to which so many numbers were put.
func fresh(t *testing.T, many int) *play {
	p := &play{t: t, d: deque.New(), ends: map[way]int{}}
	for range many {
		p.all(p.begin(push))
	}
	return p
}

// somebody does these operations, one behind the other.
type somebody struct {
	todo  []int
	under *act
}

// waits tells whether he has something to do.
func (s *somebody) waits() bool { return s.under != nil || len(s.todo) > 0 }

// comes has him do one step.
func (s *somebody) comes(p *play) {
	if s.under == nil {
		s.under = p.begin(s.todo[0])
		s.todo = s.todo[1:]
	}
	p.step(s.under)
	if s.under.done {
		s.under = nil
	}
}

// meet has some do all that they have to do, whoever is picked next, and holds
// what is left then.
func meet(p *play, all []*somebody, pick func(int) int) {
	for {
		var waiting []*somebody
		for _, s := range all {
			if s.waits() {
				waiting = append(waiting, s)
			}
		}
		if len(waiting) == 0 {
			break
		}
		waiting[pick(len(waiting))].comes(p)
	}
	p.drained()
}

// everyWay runs something once for each row of picks that it may make.
func everyWay(run func(pick func(int) int)) {
	var picks, of []int
	for {
		at := 0
		run(func(n int) int {
			if at == len(picks) {
				picks, of = append(picks, 0), append(of, n)
			}
			at++
			return picks[at-1]
		})
		for len(picks) > 0 && picks[len(picks)-1] == of[len(of)-1]-1 {
			picks, of = picks[:len(picks)-1], of[:len(of)-1]
		}
		if len(picks) == 0 {
			return
		}
		picks[len(picks)-1]++
	}
}

// P11.1 to P11.3, P11.5: an owner and thieves, in each order in which their
// steps may come.
func TestAllOrders(t *testing.T) {
	for _, x := range []struct {
		many  int // that are there at first
		owner []int
		steal []int // how often each thief comes
	}{
		{0, []int{push, pop}, []int{1, 1}},
		{1, []int{pop, push}, []int{1, 1}},
		{1, []int{pop, pop}, []int{1, 1}},
		{2, []int{pop, pop}, []int{1, 1}},
		{3, []int{pop}, []int{1, 1}},
		{2, nil, []int{1, 1, 1}},
		{1, nil, []int{1, 1, 1}},
		{2, []int{pop}, []int{1, 2}},
		{1, []int{push, pop, pop}, []int{2}},
		{2, []int{pop, push, pop}, []int{2}},
		{2, []int{pop, pop, pop}, []int{2}},
		{63, []int{push, push}, []int{2}},
		{64, []int{push}, []int{1, 1}},
		{64, []int{push, pop, push}, []int{2}},
	} {
		many := 0
		everyWay(func(pick func(int) int) {
			if t.Failed() {
				return
			}
			all := []*somebody{{todo: x.owner}}
			for _, n := range x.steal {
				all = append(all, &somebody{todo: slices.Repeat([]int{steal}, n)})
			}
			meet(fresh(t, x.many), all, pick)
			many++
		})
		if t.Failed() {
			t.Fatalf("%v, the %d-th order", x, many)
		}
	}
}

// P11.1 to P11.3, P11.5: an owner and up to seven thieves for a long time, at
// times more of the one, at times of the other, so that all cells are taken
// round, and full, and empty; some thieves are slow.
func TestAny(t *testing.T) {
	ends := map[way]int{}
	for seed := range int64(900) {
		pick := rand.New(rand.NewSource(seed))
		p := fresh(t, 0)
		all := make([]*somebody, 2+pick.Intn(7))
		for i := range all {
			all[i] = &somebody{}
		}
		pushes, comes := 0, 0 // of 8 of the owner's operations; how often the owner comes ahead of all others
		for i := range 4000 {
			if i%500 == 0 {
				pushes, comes = 1+pick.Intn(7), pick.Intn(12)
			}
			who := max(0, pick.Intn(len(all)+comes)-comes)
			if who > 1 && pick.Intn(1<<who) > 1 {
				who = 0
			}
			s := all[who]
			if !s.waits() {
				s.todo = []int{anyOf(pick, who, pushes)}
			}
			s.comes(p)
		}
		meet(p, all, pick.Intn)
		if t.Failed() {
			t.Fatal("seed", seed)
		}
		for w, n := range p.ends {
			ends[w] += n
		}
	}
	for _, w := range ways() {
		if ends[w] < 100 {
			t.Errorf("%v: only %d operations ended so", w, ends[w])
		}
	}
	if len(ends) != len(ways()) {
		t.Errorf("operations ended in these ways: %v", ends)
	}
}

// anyOf is what somebody does next: a thief steals; so does the owner, now and
// then.
func anyOf(pick *rand.Rand, who, pushes int) int {
	switch {
	case who > 0 || pick.Intn(20) == 0:
		return steal
	case pick.Intn(8) < pushes:
		return push
	}
	return pop
}

// P1, P11.1, P11.2, R1, R3: any calls of some deques, with any operation of
// any of them, or none.
func TestAnyCalls(t *testing.T) {
	for seed := range int64(300) {
		pick := rand.New(rand.NewSource(seed))
		plays := []*play{fresh(t, 0), fresh(t, pick.Intn(3)), fresh(t, 64)}
		of := map[*act]*play{}
		var acts []*act
		for range 600 {
			p := plays[pick.Intn(len(plays))]
			if len(acts) == 0 || pick.Intn(3) == 0 {
				if a := p.begin(10 + 10*pick.Intn(3)); a != nil {
					acts, of[a] = append(acts, a), p
				}
				continue
			}
			a := acts[max(0, len(acts)-1-pick.Intn(20))]
			switch {
			case pick.Intn(20) == 0:
				stepFails(t, p.d, nil, api.ErrArg)
			case of[a] != p:
				stepFails(t, p.d, a.op, api.ErrArg)
			case a.done:
				stepFails(t, p.d, a.op, api.ErrState)
			default:
				p.step(a)
			}
			of[a].same(a)
		}
		for _, a := range acts {
			of[a].all(a)
		}
		for _, p := range plays {
			p.drained()
		}
		if t.Failed() {
			t.Fatal("seed", seed)
		}
	}
}
