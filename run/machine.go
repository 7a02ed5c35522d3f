package run

import (
	"slices"

	"fettle/api"
	"fettle/arith"
	"fettle/check"
)

// place is where a function goes on: at an instruction of a block, or behind
// all of them, at its end.
type place struct{ fun, block, at int }

// caller is a function that waits for the one that it called: where it goes
// on, and its registers, but for zeros behind all others.
type caller struct {
	place
	regs []int64
}

// machine is a run of proper functions as it stands: at a place, with the
// registers of the function that is there. Callers wait in a list rather
// than on Go's own stack, which 2^20 of them could use up.
type machine struct {
	place
	regs    [api.MaxRegs]int64
	callers []caller

	funcs []api.Func
	ahead [][][]int // of each function's each block, those ahead of it
	read  []int64   // what was read last; kept so that its room is used again
	told  api.Outcome
}

// outcome is what comes of a function that is entered with these arguments.
func outcome(funcs []api.Func, f int, args []int64, steps int) api.Outcome {
	m := &machine{funcs: funcs}
	for _, g := range funcs {
		m.ahead = append(m.ahead, check.Ahead(g))
	}
	m.enter(f, args)
	for m.told.Steps < steps && !m.told.Done {
		m.told.Steps++
		m.step()
	}
	return m.told
}

// enter begins a function.
func (m *machine) enter(f int, args []int64) {
	m.place = place{fun: f}
	m.setRegs(args)
}

// setRegs makes these the first registers, and all others 0.
func (m *machine) setRegs(first []int64) {
	n := copy(m.regs[:], first)
	clear(m.regs[n:])
}

// step does what is at the place. The place moves on ahead of that, so that
// a call waits behind itself.
func (m *machine) step() {
	b := m.funcs[m.fun].Blocks[m.block]
	if m.at == len(b.Ins) {
		m.end(b.Term)
		return
	}
	m.at++
	m.do(b.Ins[m.at-1])
}

// do does an instruction.
func (m *machine) do(in api.Instr) {
	m.readAll(in.Args)
	switch in.Op {
	case api.OpConst:
		m.regs[in.Dst] = in.Imm
	case api.OpLoad:
		if w := m.word(m.read[0]); w != nil {
			m.regs[in.Dst] = *w
		}
	case api.OpStore:
		if w := m.word(m.read[0]); w != nil {
			*w = m.read[1]
		}
	case api.OpOut:
		m.told.Out = append(m.told.Out, m.read[0])
	case api.OpCall:
		m.callers = append(m.callers, caller{m.place, m.aside()})
		m.enter(in.Fun, m.read)
	default:
		m.reckon(in)
	}
}

// readAll reads what registers hold.
func (m *machine) readAll(regs []int) {
	m.read = m.read[:0]
	for _, r := range regs {
		m.read = append(m.read, m.regs[r])
	}
}

// word is a word of memory; none, where there isn't one: then it traps.
func (m *machine) word(at int64) *int64 {
	if !isWithin(at, api.Words) {
		m.trap(api.TrapMemory)
		return nil
	}
	return &m.told.Memory[at]
}

// reckon does an instruction that arith knows. Of a proper one's arguments
// nothing is amiss but a divisor of 0.
func (m *machine) reckon(in api.Instr) {
	v, err := arith.Eval(in.Op, m.read)
	if err != nil {
		m.trap(api.TrapDiv)
		return
	}
	m.regs[in.Dst] = v
}

// trap ends all.
func (m *machine) trap(t int) { m.told.Done, m.told.Trap = true, t }

// aside are the registers as a caller keeps them. Zeros behind all others
// are left out: as many callers as there may be steps, of 256 registers each,
// would need 2 GiB with them.
func (m *machine) aside() []int64 {
	n := len(m.funcs[m.fun].Regs)
	for n > 0 && m.regs[n-1] == 0 {
		n--
	}
	return slices.Clone(m.regs[:n])
}

// end does a block's end.
func (m *machine) end(t api.Term) {
	switch {
	case t.Kind == api.TermReturn:
		m.giveBack(t.Arg)
	case t.Kind == api.TermBranch && m.regs[t.Arg] == 0:
		m.goTo(t.To[1])
	default:
		m.goTo(t.To[0])
	}
}

// goTo enters a block from the one at the place. It reads for all phis ahead
// of the first one's Dst, which may be another one's Arg.
func (m *machine) goTo(to int) {
	phis := m.funcs[m.fun].Blocks[to].Phis
	from := slices.Index(m.ahead[m.fun][to], m.block)
	m.read = m.read[:0]
	for _, p := range phis {
		m.read = append(m.read, m.regs[p.Args[from]])
	}
	for i, p := range phis {
		m.regs[p.Dst] = m.read[i]
	}
	m.block, m.at = to, 0
}

// giveBack returns what a register holds, or, of -1, nothing: to the caller
// that came last, or, where there is none, as what came of the run.
func (m *machine) giveBack(reg int) {
	v := int64(0)
	if reg >= 0 {
		v = m.regs[reg]
	}
	last := len(m.callers) - 1
	if last < 0 {
		m.told.Done, m.told.Value = true, v
		return
	}
	m.resume(m.callers[last], v)
	m.callers = m.callers[:last]
}

// resume goes on behind a caller's call, which returned v.
func (m *machine) resume(c caller, v int64) {
	m.place = c.place
	m.setRegs(c.regs)
	call := m.funcs[m.fun].Blocks[m.block].Ins[m.at-1]
	if call.Dst >= 0 {
		m.regs[call.Dst] = v
	}
}
