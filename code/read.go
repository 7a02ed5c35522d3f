package code

import "fettle/api"

// maxNumber is the greatest number without a sign that a module may have.
const maxNumber = 1 << 31

// reader goes through bytes. With the first error it stops: from then on all
// numbers that it reads are 0, and all lists have no elements.
type reader struct {
	bytes []byte
	at    int
	err   error
}

// read is the module whose bytes these are, proper or not.
func read(b []byte) (api.Module, error) {
	r := &reader{bytes: b}
	r.mark()
	m := api.Module{Funcs: readList(r, api.MaxFuncs, r.function)}
	r.end()
	return m, r.err
}

// fail notes what is amiss at a place, unless something was amiss already.
func (r *reader) fail(at int, err api.Code) {
	if r.err == nil {
		r.err = &api.Spot{At: at, Err: err}
	}
}

func (r *reader) mark() {
	if len(r.bytes) < len(mark) || string(r.bytes[:len(mark)]) != mark {
		r.fail(0, api.ErrForm)
		return
	}
	r.at = len(mark)
}

// end holds that nothing is left.
func (r *reader) end() {
	if r.at < len(r.bytes) {
		r.fail(r.at, api.ErrForm)
	}
}

// anyNumber reads a number as it is written, be it for one with a sign or
// not.
func (r *reader) anyNumber() uint64 {
	if r.err != nil {
		return 0
	}
	n, many := leading(r.bytes[r.at:])
	if many == 0 {
		r.fail(r.at, api.ErrForm)
	}
	r.at += many
	return n
}

// number reads a number without a sign.
func (r *reader) number() int {
	at := r.at
	n := r.anyNumber()
	if n > maxNumber {
		r.fail(at, api.ErrForm)
		return 0
	}
	return int(n)
}

// many reads how many a list has.
func (r *reader) many(limit int) int {
	at := r.at
	n := r.number()
	if n > limit {
		r.fail(at, api.ErrLarge)
		return 0
	}
	return n
}

// readList reads a list of at most so many.
func readList[T any](r *reader, limit int, one func() T) []T {
	var list []T
	for range r.many(limit) {
		list = append(list, one())
		if r.err != nil {
			return nil
		}
	}
	return list
}

func (r *reader) numbers() []int { return readList(r, api.MaxRegs, r.number) }

// The literals below stand in the order of the bytes: Go makes the calls in
// one from left to right.

func (r *reader) function() api.Func {
	return api.Func{
		Params: r.number(),
		Result: r.number(),
		Regs:   r.numbers(),
		Blocks: readList(r, api.MaxBlocks, r.block),
	}
}

func (r *reader) block() api.Block {
	return api.Block{
		Phis: readList(r, api.MaxIns, r.phi),
		Ins:  readList(r, api.MaxIns, r.instr),
		Term: r.term(),
	}
}

func (r *reader) phi() api.Phi {
	return api.Phi{Dst: r.number(), Args: r.numbers()}
}

func (r *reader) instr() api.Instr {
	return api.Instr{
		Op:   r.number(),
		Dst:  r.number() - 1,
		Args: r.numbers(),
		Imm:  signed(r.anyNumber()),
		Fun:  r.number(),
	}
}

func (r *reader) term() api.Term {
	return api.Term{Kind: r.number(), Arg: r.number() - 1, To: r.numbers()}
}
