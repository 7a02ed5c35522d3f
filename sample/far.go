package sample

import "fettle/api"

// Far is a plain function of so many blocks, two at least, over few registers.
// They lead to the next one most often, else to one that is near, or any.
func Far(pick Pick, blocks int) api.Func {
	f := Function(2, api.TypeInt, []int{1, 2, 1, 1, 2, 1, 1})
	rarely, least := 1+pick(9), pick(4)
	to := func(near int) int {
		if pick(rarely) == 0 {
			return 1 + pick(blocks-1)
		}
		return min(max(1, near), blocks-1)
	}
	for i := range blocks {
		a, b := to(i+1), to(i-4+pick(9))
		end := Jump(a)
		if a != b && pick(4) > 0 {
			end = Branch([]int{1, 4}[pick(2)], a, b)
		}
		if pick(20) == 0 {
			end = GiveBack([]int{0, 2}[pick(2)])
		}
		f.Blocks = append(f.Blocks, Block(end, farInstrs(pick, least)...))
	}
	return f
}

// farInstrs are up to three instructions of such a function, at least so many.
func farInstrs(pick Pick, least int) []api.Instr {
	all := []api.Instr{
		Op(api.OpAdd, 0, 0, 2), Op(api.OpAdd, 2, 3, 0), Op(api.OpAdd, 3, 2, 2), Op(api.OpCopy, 0, 3), Op(api.OpCopy, 4, 1), Op(api.OpCopy, 1, 4),
		Constant(2, 7), Constant(4, 1), Out(0), Out(2), Out(3), Op(api.OpLt, 1, 2, 0), Op(api.OpNot, 4, 4), Op(api.OpXor, 3, 3, 0),
		Op(api.OpAdd, 5, 6, 5), Op(api.OpAdd, 6, 5, 6), Out(5), Op(api.OpCopy, 3, 6),
	}
	var ins []api.Instr
	for range least + pick(4-least) {
		ins = append(ins, all[pick(len(all))])
	}
	return ins
}
