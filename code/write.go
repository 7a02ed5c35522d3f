package code

import "fettle/api"

// writer holds the bytes written so far. What it writes is proper, so that
// of numbers without a sign none is below 0.
type writer struct{ bytes []byte }

// write is a proper module's bytes.
func write(m api.Module) []byte {
	w := &writer{bytes: []byte(mark)}
	writeList(w, m.Funcs, w.function)
	return w.bytes
}

// writeList writes how many a list has, and them.
func writeList[T any](w *writer, list []T, one func(T)) {
	w.number(len(list))
	for _, x := range list {
		one(x)
	}
}

// number writes a number without a sign.
func (w *writer) number(n int) { w.bytes = withNumber(w.bytes, uint64(n)) }

func (w *writer) numbers(list []int) { writeList(w, list, w.number) }

func (w *writer) function(f api.Func) {
	w.number(f.Params)
	w.number(f.Result)
	w.numbers(f.Regs)
	writeList(w, f.Blocks, w.block)
}

func (w *writer) block(b api.Block) {
	writeList(w, b.Phis, w.phi)
	writeList(w, b.Ins, w.instr)
	w.term(b.Term)
}

func (w *writer) phi(p api.Phi) {
	w.number(p.Dst)
	w.numbers(p.Args)
}

func (w *writer) instr(in api.Instr) {
	w.number(in.Op)
	w.number(in.Dst + 1)
	w.numbers(in.Args)
	w.bytes = withNumber(w.bytes, unsigned(in.Imm))
	w.number(in.Fun)
}

func (w *writer) term(t api.Term) {
	w.number(t.Kind)
	w.number(t.Arg + 1)
	w.numbers(t.To)
}
