package check

import (
	"errors"
	"fmt"
	"math"
	"math/rand"
	"reflect"
	"testing"

	"fettle/api"
)

// far are numbers below all, and beyond all, that there may be of anything.
var far = []int{-1, -2, math.MinInt, 1 << 40, math.MaxInt}

func module(l ...api.Func) api.Module { return api.Module{Funcs: l} }

func jump(to ...int) api.Term { return api.Term{Kind: api.TermJump, Arg: -1, To: to} }

func branch(arg int, to ...int) api.Term {
	return api.Term{Kind: api.TermBranch, Arg: arg, To: to}
}

func giveBack(arg int) api.Term { return api.Term{Kind: api.TermReturn, Arg: arg} }

// round counts up to its parameter, and puts out each number on its way.
func round() api.Func {
	return api.Func{Params: 1, Result: api.TypeInt, Regs: []int{1, 1, 1, 1, 2, 1}, Blocks: []api.Block{
		{Ins: []api.Instr{{Op: api.OpConst, Dst: 1}, {Op: api.OpConst, Dst: 5, Imm: 1}}, Term: jump(1)},
		{
			Phis: []api.Phi{{Dst: 2, Args: []int{1, 3}}, {Dst: 3, Args: []int{5, 5}}},
			Ins:  []api.Instr{{Op: api.OpLt, Dst: 4, Args: []int{2, 0}}, {Op: api.OpCopy, Dst: 4, Args: []int{4}}},
			Term: branch(4, 2, 3),
		},
		{Ins: []api.Instr{{Op: api.OpAdd, Dst: 3, Args: []int{2, 5}}, {Op: api.OpOut, Dst: -1, Args: []int{3}}}, Term: jump(1)},
		{Term: giveBack(2)},
	}}
}

// quiet is a function that does nothing, of so many registers.
func quiet(regs int) api.Func {
	f := api.Func{Blocks: []api.Block{{Term: giveBack(-1)}}}
	for range regs {
		f.Regs = append(f.Regs, api.TypeInt)
	}
	return f
}

// row is so many blocks, each jumping to the next one.
func row(blocks int) api.Func {
	f := api.Func{Regs: []int{1}}
	for i := range blocks {
		f.Blocks = append(f.Blocks, api.Block{Term: jump(i + 1)})
	}
	if blocks > 0 {
		f.Blocks[blocks-1].Term = giveBack(-1)
	}
	return f
}

// copyOf is a module that shares nothing with m.
func copyOf(m api.Module) api.Module {
	var c api.Module
	for _, f := range m.Funcs {
		g := f
		g.Regs, g.Blocks = append([]int(nil), f.Regs...), nil
		for _, b := range f.Blocks {
			d := api.Block{Term: b.Term}
			d.Term.To = append([]int(nil), b.Term.To...)
			for _, p := range b.Phis {
				d.Phis = append(d.Phis, api.Phi{Dst: p.Dst, Args: append([]int(nil), p.Args...)})
			}
			for _, in := range b.Ins {
				in.Args = append([]int(nil), in.Args...)
				d.Ins = append(d.Ins, in)
			}
			g.Blocks = append(g.Blocks, d)
		}
		c.Funcs = append(c.Funcs, g)
	}
	return c
}

// wantItself wants an error that is a Code, or none (where want is 0).
func wantItself(t *testing.T, what string, err error, want api.Code) {
	t.Helper()
	if want == 0 {
		if err != nil {
			t.Errorf("%s: %v, want none", what, err)
		}
	} else if err != error(want) {
		t.Errorf("%s: %v, want %v itself", what, err, want)
	}
}

// wantSpot wants a Spot at a place whose Err is a Code.
func wantSpot(t *testing.T, what string, err error, at int, want api.Code) {
	t.Helper()
	s, ok := err.(*api.Spot)
	if !ok || s == nil || s.At != at || s.Err != error(want) {
		t.Errorf("%s: %v, want %v at %d", what, err, want, at)
	}
}

// wantFunc wants it of a module's first function, and of the module.
func wantFunc(t *testing.T, what string, m api.Module, want api.Code) {
	t.Helper()
	wantItself(t, what, Func(m, 0), want)
	if want != 0 {
		wantSpot(t, what, Module(m), 0, want)
		wantSpot(t, what, Plain(m), 0, want)
	}
}

// P2.1, P2.2: what is proper.
func TestProper(t *testing.T) {
	lone := quiet(0)
	unreached := row(3)
	unreached.Blocks[0].Term = giveBack(-1)
	toItself := row(3)
	toItself.Blocks[1].Term = jump(1)
	started := quiet(2)
	started.Blocks[0].Phis = []api.Phi{{Dst: 1}}
	bools := api.Func{Params: 2, Result: api.TypeBool, Regs: []int{2, 1}, Blocks: []api.Block{{Term: giveBack(0)}}}
	again := quiet(1)
	again.Blocks[0].Ins = []api.Instr{{Op: api.OpCall, Dst: -1}}
	for i, f := range []api.Func{round(), lone, unreached, toItself, started, bools, again} {
		wantFunc(t, fmt.Sprint("proper ", i), module(f), 0)
		wantItself(t, fmt.Sprint("proper ", i), Module(module(f)), 0)
	}
	wantItself(t, "nothing", Module(api.Module{}), 0)
	wantItself(t, "nothing", Plain(api.Module{}), 0)
}

// P2.1: no such function.
func TestNoSuchFunc(t *testing.T) {
	wantItself(t, "nothing", Func(api.Module{}, 0), api.ErrArg)
	m := module(round(), api.Func{})
	for _, f := range append([]int{2, 3}, far...) {
		wantItself(t, fmt.Sprint("function ", f), Func(m, f), api.ErrArg)
	}
	wantItself(t, "function 0", Func(m, 0), 0)
	wantItself(t, "function 1", Func(m, 1), api.ErrLarge)
}

// P2.1: rule 1.
func TestRule1(t *testing.T) {
	for blocks, want := range map[int]api.Code{0: api.ErrLarge, 1: 0, 63: 0, 64: 0, 65: api.ErrLarge, 1000: api.ErrLarge} {
		wantFunc(t, fmt.Sprint(blocks, " blocks"), module(row(blocks)), want)
	}
	for regs, want := range map[int]api.Code{0: 0, 1: 0, 255: 0, 256: 0, 257: api.ErrLarge, 1000: api.ErrLarge} {
		wantFunc(t, fmt.Sprint(regs, " registers"), module(quiet(regs)), want)
	}
	for _, c := range []struct {
		blocks, phis, ins int
		want              api.Code
	}{
		{1, 0, 255, 0}, {1, 0, 256, api.ErrLarge}, {1, 0, 1 << 16, api.ErrLarge},
		{1, 255, 0, 0}, {1, 256, 0, api.ErrLarge},
		{1, 100, 155, 0}, {1, 100, 156, api.ErrLarge}, {1, 101, 155, api.ErrLarge},
		{64, 0, 192, 0}, {64, 0, 193, api.ErrLarge}, {63, 0, 193, 0},
		{64, 60, 132, 0}, {64, 60, 133, api.ErrLarge}, {64, 61, 132, api.ErrLarge},
	} {
		f := row(c.blocks)
		for i := range c.phis {
			args := make([]int, min(1, i%c.blocks))
			b := &f.Blocks[i%c.blocks]
			b.Phis = append(b.Phis, api.Phi{Args: args})
		}
		for i := range c.ins {
			b := &f.Blocks[(i+c.phis)%c.blocks]
			b.Ins = append(b.Ins, api.Instr{Op: api.OpConst})
		}
		wantFunc(t, fmt.Sprint(c.blocks, " ends, ", c.phis, " phis, ", c.ins, " instructions"), module(f), c.want)
	}
}

// P2.1: rule 2.
func TestRule2(t *testing.T) {
	for params := range 12 {
		for regs := range 12 {
			f := quiet(regs)
			f.Params = params
			want := api.Code(0)
			if params > 8 || params > regs {
				want = api.ErrType
			}
			wantFunc(t, fmt.Sprint(params, " parameters of ", regs), module(f), want)
		}
	}
	for _, n := range far {
		f := quiet(256)
		f.Params = n
		wantFunc(t, fmt.Sprint(n, " parameters"), module(f), api.ErrType)
	}
	for _, n := range append([]int{0, 3, 4}, far...) {
		for at := range 3 {
			f := quiet(3)
			f.Params, f.Regs[at] = 1, n
			wantFunc(t, fmt.Sprint("register ", at, " of type ", n), module(f), api.ErrType)
		}
	}
	for _, n := range append([]int{3, 4}, far...) {
		f := quiet(3)
		f.Result = n
		wantFunc(t, fmt.Sprint("result of type ", n), module(f), api.ErrType)
	}
}

// P2.1: rule 3.
func TestRule3(t *testing.T) {
	try := func(end api.Term, want api.Code) {
		t.Helper()
		for at := range 4 {
			f := api.Func{Regs: []int{2}, Blocks: make([]api.Block, 4)}
			for i := range f.Blocks {
				f.Blocks[i].Term = giveBack(-1)
			}
			f.Blocks[at].Term = end
			wantFunc(t, fmt.Sprint("block ", at, " ends ", end), module(f), want)
		}
	}
	try(giveBack(-1), 0)
	for to := 1; to < 4; to++ {
		try(jump(to), 0)
		try(branch(0, to, to%3+1), 0)
		try(branch(0, to, to), api.ErrShape)
		try(jump(to, to), api.ErrShape)
		try(jump(to, to%3+1), api.ErrShape)
		try(branch(0, to), api.ErrShape)
		try(branch(0, 1, 2, 3), api.ErrShape)
		try(api.Term{Kind: api.TermReturn, Arg: -1, To: []int{to}}, api.ErrShape)
	}
	try(jump(), api.ErrShape)
	try(branch(0), api.ErrShape)
	for _, to := range append([]int{0, 4, 5}, far...) {
		try(jump(to), api.ErrShape)
		try(branch(0, to, 1), api.ErrShape)
		try(branch(0, 1, to), api.ErrShape)
	}
	for _, kind := range append([]int{0, 4, 5}, far...) {
		try(api.Term{Kind: kind, Arg: -1}, api.ErrShape)
		try(api.Term{Kind: kind, Arg: -1, To: []int{1}}, api.ErrShape)
		try(api.Term{Kind: kind, To: []int{1, 2}}, api.ErrShape)
	}
}

// P2.1: rule 4.
func TestRule4(t *testing.T) {
	base := func() api.Func {
		f := api.Func{Params: 1, Regs: []int{2}, Blocks: make([]api.Block, 5)}
		f.Blocks[0].Term = branch(0, 1, 2)
		f.Blocks[1].Term = branch(0, 3, 2)
		f.Blocks[2].Term = branch(0, 2, 3)
		f.Blocks[3].Term = giveBack(-1)
		f.Blocks[4].Term = jump(3)
		return f
	}
	for at, ahead := range []int{0, 1, 3, 3, 0} {
		for args := range 6 {
			for before := range 2 {
				f, b := base(), api.Block{}
				for range before {
					b.Phis = append(b.Phis, api.Phi{Args: make([]int, ahead)})
				}
				b.Phis = append(b.Phis, api.Phi{Args: make([]int, args)})
				f.Blocks[at].Phis = b.Phis
				want := api.Code(0)
				if args != ahead {
					want = api.ErrShape
				}
				wantFunc(t, fmt.Sprint("phi of ", args, " in block ", at), module(f), want)
			}
		}
	}
}

// P2.1: rules 5 and 6 of phis.
func TestPhis(t *testing.T) {
	try := func(dst int, args []int, want api.Code) {
		t.Helper()
		f := round()
		f.Blocks[1].Phis[1] = api.Phi{Dst: dst, Args: args}
		wantFunc(t, fmt.Sprint("phi ", dst, args), module(f), want)
	}
	try(2, []int{1, 1}, 0)
	try(4, []int{4, 4}, 0)
	try(4, []int{1, 4}, api.ErrType)
	try(4, []int{4, 1}, api.ErrType)
	try(1, []int{4, 1}, api.ErrType)
	try(1, []int{1, 4}, api.ErrType)
	try(4, []int{1, 1}, api.ErrType)
	try(1, []int{4, 4}, api.ErrType)
	for _, n := range append([]int{6, 256}, far...) {
		try(n, []int{1, 1}, api.ErrNone)
		try(n, []int{1, 4}, api.ErrNone)
		try(1, []int{n, 1}, api.ErrNone)
		try(1, []int{1, n}, api.ErrNone)
		try(1, []int{4, n}, api.ErrNone)
		try(4, []int{n, 1}, api.ErrNone)
	}
}

// P2.1: rules 5 and 6 of ends.
func TestEnds(t *testing.T) {
	try := func(result int, end api.Term, want api.Code) {
		t.Helper()
		f := api.Func{Result: result, Regs: []int{1, 2}, Blocks: make([]api.Block, 3)}
		for i := range f.Blocks {
			f.Blocks[i].Term = jump(1)
		}
		f.Blocks[2].Term = end
		wantFunc(t, fmt.Sprint("result ", result, " ends ", end), module(f), want)
	}
	for result := range 3 {
		try(result, jump(1), 0)
		try(result, branch(1, 1, 2), 0)
		try(result, branch(0, 1, 2), api.ErrType)
		for _, n := range append([]int{0, 1, 2}, far...) {
			if n != -1 {
				try(result, api.Term{Kind: api.TermJump, Arg: n, To: []int{1}}, api.ErrType)
			}
		}
		for _, n := range append([]int{2, 256}, far...) {
			try(result, branch(n, 1, 2), api.ErrNone)
		}
	}
	try(api.TypeNone, giveBack(-1), 0)
	try(api.TypeInt, giveBack(0), 0)
	try(api.TypeBool, giveBack(1), 0)
	try(api.TypeInt, giveBack(1), api.ErrType)
	try(api.TypeBool, giveBack(0), api.ErrType)
	for _, n := range append([]int{0, 1, 2}, far...) {
		if n != -1 {
			try(api.TypeNone, giveBack(n), api.ErrType)
		}
	}
	for _, n := range append([]int{2, 256}, far...) {
		try(api.TypeInt, giveBack(n), api.ErrNone)
		try(api.TypeBool, giveBack(n), api.ErrNone)
	}
}

// breach is a way to make a function not proper.
type breach struct {
	name string
	err  api.Code
	do   func(f *api.Func)
}

// P2.1: of two rules that aren't so the first one is told, wherever.
func TestRulesInOrder(t *testing.T) {
	rules := [][]breach{
		{
			{"registers", api.ErrLarge, func(f *api.Func) { f.Regs = append(f.Regs, make([]int, 300)...) }},
			{"instructions", api.ErrLarge, func(f *api.Func) { f.Blocks[3].Ins = make([]api.Instr, 300) }},
			{"blocks", api.ErrLarge, func(f *api.Func) { f.Blocks = append(f.Blocks, make([]api.Block, 64)...) }},
		},
		{
			{"type", api.ErrType, func(f *api.Func) { f.Regs[5] = 3 }},
			{"parameters", api.ErrType, func(f *api.Func) { f.Params = 7 }},
			{"result", api.ErrType, func(f *api.Func) { f.Result = -1 }},
		},
		{
			{"kind", api.ErrShape, func(f *api.Func) { f.Blocks[3].Term.Kind = 0 }},
			{"to", api.ErrShape, func(f *api.Func) { f.Blocks[2].Term.To[0] = 9 }},
		},
		{
			{"phi", api.ErrShape, func(f *api.Func) { f.Blocks[1].Phis[1].Args = []int{5} }},
		},
		{
			{"phi's register", api.ErrNone, func(f *api.Func) { f.Blocks[1].Phis[0].Dst = 400 }},
			{"type", api.ErrType, func(f *api.Func) { f.Blocks[1].Phis[0].Dst = 4 }},
			{"operation", api.ErrShape, func(f *api.Func) { f.Blocks[0].Ins[0].Op = 0 }},
			{"register", api.ErrNone, func(f *api.Func) { f.Blocks[0].Ins[0].Dst = 400 }},
			{"constant", api.ErrType, func(f *api.Func) { f.Blocks[0].Ins[0].Fun = 1 }},
		},
	}
	for i, first := range rules {
		for _, a := range first {
			f := round()
			a.do(&f)
			wantFunc(t, a.name, module(f), a.err)
			for _, later := range rules[i+1:] {
				for _, b := range later {
					f := round()
					b.do(&f)
					a.do(&f)
					wantFunc(t, a.name+" and "+b.name, module(f), a.err)
				}
			}
		}
	}
}

// P2.1: of blocks, phis, instructions and ends the first one amiss is told.
func TestPlacesInOrder(t *testing.T) {
	phi := func(b, i int) []breach {
		return []breach{
			{"Dst", api.ErrNone, func(f *api.Func) { f.Blocks[b].Phis[i].Dst = 6 }},
			{"Args", api.ErrType, func(f *api.Func) { f.Blocks[b].Phis[i].Args[1] = 4 }},
		}
	}
	ins := func(b, i int) []breach {
		return []breach{
			{"Op", api.ErrShape, func(f *api.Func) { f.Blocks[b].Ins[i].Op = 19 }},
			{"Dst", api.ErrNone, func(f *api.Func) { f.Blocks[b].Ins[i] = api.Instr{Op: api.OpConst, Dst: 6} }},
			{"Fun", api.ErrType, func(f *api.Func) { f.Blocks[b].Ins[i].Fun = 1 }},
		}
	}
	places := [][]breach{
		ins(0, 0), ins(0, 1),
		{{"jump", api.ErrType, func(f *api.Func) { f.Blocks[0].Term.Arg = 0 }}},
		phi(1, 0), phi(1, 1), ins(1, 0), ins(1, 1),
		{
			{"branch", api.ErrNone, func(f *api.Func) { f.Blocks[1].Term.Arg = 6 }},
			{"branch", api.ErrType, func(f *api.Func) { f.Blocks[1].Term.Arg = 0 }},
		},
		ins(2, 0), ins(2, 1),
		{{"jump", api.ErrType, func(f *api.Func) { f.Blocks[2].Term.Arg = 6 }}},
		{
			{"return", api.ErrNone, func(f *api.Func) { f.Blocks[3].Term.Arg = -1 }},
			{"return", api.ErrType, func(f *api.Func) { f.Blocks[3].Term.Arg = 4 }},
		},
	}
	for i, first := range places {
		for _, a := range first {
			f := round()
			a.do(&f)
			wantFunc(t, fmt.Sprint(i, a.name), module(f), a.err)
			for j, later := range places[i+1:] {
				for _, b := range later {
					f := round()
					b.do(&f)
					a.do(&f)
					wantFunc(t, fmt.Sprint(i, a.name, " and ", i+1+j, b.name), module(f), a.err)
				}
			}
		}
	}
}

// P2.2: modules.
func TestModule(t *testing.T) {
	bad := round()
	bad.Blocks[3].Term.Arg = 9
	worse := round()
	worse.Blocks[1].Term.To[0] = 0
	var m api.Module
	for n := 1; n <= 40; n++ {
		m.Funcs = append(m.Funcs, quiet(0))
		want := api.Code(0)
		if n > 32 {
			want = api.ErrLarge
		}
		wantItself(t, fmt.Sprint(n, " functions"), Module(m), want)
		wantItself(t, fmt.Sprint(n, " functions"), Plain(m), want)
		wantItself(t, fmt.Sprint(n, " functions' last"), Func(m, n-1), 0)
	}
	for at := range 32 {
		m := copyOf(api.Module{Funcs: m.Funcs[:32]})
		m.Funcs[at] = bad
		wantSpot(t, "one bad", Module(m), at, api.ErrNone)
		wantSpot(t, "one bad", Plain(m), at, api.ErrNone)
		for other := at + 1; other < 32; other++ {
			m.Funcs[other] = worse
		}
		wantSpot(t, "all bad behind", Module(m), at, api.ErrNone)
		wantSpot(t, "all bad behind", Plain(m), at, api.ErrNone)
		m.Funcs = append(m.Funcs, quiet(0))
		wantItself(t, "too many, and bad", Module(m), api.ErrLarge)
		wantItself(t, "too many, and bad", Plain(m), api.ErrLarge)
	}
}

// P2.2: plain modules.
func TestPlain(t *testing.T) {
	bad := quiet(0)
	bad.Result = 5
	late := row(3)
	late.Blocks[2].Phis = []api.Phi{{Args: []int{0}}}
	early := quiet(1)
	early.Blocks[0].Phis = []api.Phi{{}}
	for _, phis := range []api.Func{round(), late, early} {
		wantSpot(t, "a phi", Plain(module(phis)), 0, api.ErrShape)
		wantSpot(t, "a phi behind", Plain(module(quiet(0), row(5), phis)), 2, api.ErrShape)
		wantSpot(t, "two phis", Plain(module(quiet(0), phis, phis)), 1, api.ErrShape)
		wantSpot(t, "a phi ahead of a fault", Plain(module(phis, quiet(0), bad)), 2, api.ErrType)
		wantItself(t, "a phi is proper", Module(module(phis)), 0)
	}
	wantItself(t, "none", Plain(module(row(5), quiet(3), quiet(0))), 0)
}

// sameLists tells whether lists are the same, nil or empty.
func sameLists(a, b [][]int) bool {
	if len(a) != len(b) {
		return false
	}
	for i := range a {
		if len(a[i]) != len(b[i]) || len(a[i]) > 0 && !reflect.DeepEqual(a[i], b[i]) {
			return false
		}
	}
	return true
}

// P2.3: Ahead, of proper functions and of others.
func TestAhead(t *testing.T) {
	ends := func(tos ...[]int) api.Func {
		var f api.Func
		for i, to := range tos {
			f.Blocks = append(f.Blocks, api.Block{Term: api.Term{Kind: i % 5, Arg: i, To: to}})
		}
		return f
	}
	many := make([][]int, 100)
	for i := range many {
		many[i] = []int{99, 0}
	}
	all := make([]int, 100)
	for i := range all {
		all[i] = i
	}
	manyWant := make([][]int, 100)
	manyWant[0], manyWant[99] = all, all
	for i, c := range []struct {
		f    api.Func
		want [][]int
	}{
		{api.Func{}, nil},
		{round(), [][]int{nil, {0, 2}, {1}, {1}}},
		{quiet(1), [][]int{nil}},
		{row(3), [][]int{nil, {0}, {1}}},
		{ends([]int{0}), [][]int{{0}}},
		{ends([]int{1, 1}, nil), [][]int{nil, {0}}},
		{ends([]int{1, 1, 1}, []int{1, 0, 1, 0}), [][]int{{1}, {0, 1}}},
		{ends([]int{2, 1, 2}, []int{2}, []int{1, 2}), [][]int{nil, {0, 2}, {0, 1, 2}}},
		{ends([]int{-1, 2, 1}, []int{math.MinInt, math.MaxInt, 1}), [][]int{nil, {0, 1}}},
		{ends(far, far, []int{3, 4, 5}, []int{1 << 32}), [][]int{nil, nil, nil, {2}}},
		{ends(many...), manyWant},
	} {
		if got := Ahead(c.f); !sameLists(got, c.want) {
			t.Errorf("%d: %v, want %v", i, got, c.want)
		}
	}
}

// P2.4: what Ahead tells is new memory.
func TestAheadIsNew(t *testing.T) {
	f := round()
	want := Ahead(round())
	for _, l := range Ahead(f) {
		for i := range l {
			l[i] = 77
		}
	}
	if got := Ahead(f); !sameLists(got, want) {
		t.Errorf("once more: %v, want %v", got, want)
	}
	got := Ahead(f)
	for i := range got {
		_ = append(got[i], 77, 77, 77)
	}
	if !sameLists(got, want) {
		t.Errorf("lists share: %v, want %v", got, want)
	}
	if !reflect.DeepEqual(f, round()) {
		t.Error("changed")
	}
}

// P2.4: a Spot is new memory.
func TestSpotIsNew(t *testing.T) {
	phis := module(round())
	bad := module(api.Func{})
	for _, ask := range []func() error{
		func() error { return Module(bad) },
		func() error { return Plain(bad) },
		func() error { return Plain(phis) },
	} {
		var s *api.Spot
		if !errors.As(ask(), &s) {
			t.Fatal("no Spot")
		}
		was := *s
		s.At, s.Err = 99, nil
		if !errors.As(ask(), &s) || *s != was {
			t.Errorf("%v, want %v", s, &was)
		}
	}
}

// P2.5: a part of a proper module is proper, where it calls none beyond.
func TestParts(t *testing.T) {
	calling := func(funs ...int) api.Func {
		f := quiet(0)
		for _, fun := range funs {
			f.Blocks[0].Ins = append(f.Blocks[0].Ins, api.Instr{Op: api.OpCall, Dst: -1, Fun: fun})
		}
		return f
	}
	m := module(calling(), calling(0, 1), calling(0, 3), calling(1, 2), calling(5), calling(4, 5, 0))
	wantItself(t, "whole", Module(m), 0)
	for n, at := range map[int]int{3: 2, 5: 4} {
		wantSpot(t, fmt.Sprint("first ", n), Module(module(m.Funcs[:n]...)), at, api.ErrNone)
	}
	for _, n := range []int{0, 1, 2, 4, 6} {
		wantItself(t, fmt.Sprint("first ", n), Module(module(m.Funcs[:n]...)), 0)
	}
}

// P2.5: a register more does no harm.
func TestRegisterMore(t *testing.T) {
	for _, typ := range []int{api.TypeInt, api.TypeBool} {
		m := module(round(), quiet(0))
		for len(m.Funcs[0].Regs) < 256 {
			m.Funcs[0].Regs = append(m.Funcs[0].Regs, typ)
			m.Funcs[1].Regs = append(m.Funcs[1].Regs, typ)
			wantItself(t, "a register more", Module(m), 0)
		}
		m.Funcs[0].Regs = append(m.Funcs[0].Regs, typ)
		wantSpot(t, "too many", Module(m), 0, api.ErrLarge)
	}
}

// wild is a module of numbers that may be anything.
func wild(r *rand.Rand) api.Module {
	num := func() int {
		if r.Intn(20) == 0 {
			return far[r.Intn(len(far))]
		}
		return r.Intn(5) - 1
	}
	nums := func() []int {
		l := make([]int, r.Intn(4))
		for i := range l {
			l[i] = num()
		}
		return l
	}
	var m api.Module
	for range r.Intn(4) {
		f := api.Func{Params: num(), Result: num()}
		for range r.Intn(6) {
			f.Regs = append(f.Regs, r.Intn(20)%3+r.Intn(20)%2)
		}
		for range r.Intn(5) {
			b := api.Block{Term: api.Term{Kind: num(), Arg: num(), To: nums()}}
			for range r.Intn(2) {
				b.Phis = append(b.Phis, api.Phi{Dst: num(), Args: nums()})
			}
			for range r.Intn(3) {
				b.Ins = append(b.Ins, api.Instr{Op: r.Intn(20), Dst: num(), Args: nums(), Imm: int64(num()), Fun: num()})
			}
			f.Blocks = append(f.Blocks, b)
		}
		m.Funcs = append(m.Funcs, f)
	}
	return m
}

// changed is a proper module, but for some numbers.
func changed(r *rand.Rand) api.Module {
	m := module(round(), quiet(3), round())
	for range r.Intn(3) {
		f := &m.Funcs[r.Intn(3)]
		b := &f.Blocks[r.Intn(len(f.Blocks))]
		n := r.Intn(8) - 1
		switch r.Intn(6) {
		case 0:
			b.Term.Arg = n
		case 1:
			f.Params = n
		case 2:
			f.Result = n
		case 3:
			b.Term.Kind = n
		case 4:
			if len(b.Ins) > 0 {
				b.Ins[0].Dst = n
			}
		case 5:
			if len(b.Ins) > 0 {
				b.Ins[0].Op, b.Ins[0].Fun = api.OpCall, n
			}
		}
	}
	return m
}

// firstFault is what Module has to tell, as Func tells it.
func firstFault(m api.Module) (int, error) {
	for i := range m.Funcs {
		if err := Func(m, i); err != nil {
			return i, err
		}
	}
	return 0, nil
}

// P1, P2.2, P2.4: no module makes it panic, none is changed, and what is
// told of a module is what is told of its functions.
func TestAnyModule(t *testing.T) {
	r := rand.New(rand.NewSource(2))
	for i := range 40000 {
		m := wild(r)
		if i%2 == 0 {
			m = changed(r)
		}
		was := copyOf(m)
		at, err := firstFault(m)
		if err == nil {
			wantItself(t, "module", Module(m), 0)
		} else {
			wantSpot(t, "module", Module(m), at, err.(api.Code))
			wantSpot(t, "module", Plain(m), at, err.(api.Code))
		}
		for _, f := range m.Funcs {
			if got := Ahead(f); len(got) != len(f.Blocks) {
				t.Error("blocks ahead of ", len(got))
			}
		}
		if !reflect.DeepEqual(copyOf(m), was) {
			t.Fatal("changed: ", was)
		}
	}
}
