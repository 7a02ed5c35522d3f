package proper

import (
	"fettle/api"
	"fettle/check"
)

// Places are told as a Maker's are, a block's end as one instruction more: of
// two in one block the one ahead has the lower At.

// atPhi is where all phis of a block are.
const atPhi = -1

// ofNone is the maker of a parameter, and of a register that isn't made.
var ofNone = api.Maker{Block: -1, At: -2}

// eachMade goes through all that makes a register: that it is a parameter
// comes ahead of all, then block by block, phis first.
func eachMade(f api.Func, by func(r int, m api.Maker)) {
	made := func(r int, m api.Maker) {
		if r >= 0 && r < len(f.Regs) {
			by(r, m)
		}
	}
	for r := range min(f.Params, len(f.Regs)) {
		made(r, ofNone)
	}
	for i, b := range f.Blocks {
		for _, p := range b.Phis {
			made(p.Dst, api.Maker{Block: i, At: atPhi})
		}
		for at, in := range b.Ins {
			made(in.Dst, api.Maker{Block: i, At: at})
		}
	}
}

// eachNamed goes through all Args of a proper function, each with the place
// that its register has to be ahead of: a phi's are named by the ends of the
// blocks that they stand for.
func eachNamed(f api.Func, by func(r int, at api.Maker)) {
	ahead := check.Ahead(f)
	for i, b := range f.Blocks {
		for _, p := range b.Phis {
			for n, from := range ahead[i] {
				by(p.Args[n], endOf(f, from))
			}
		}
		for at, in := range b.Ins {
			for _, r := range in.Args {
				by(r, api.Maker{Block: i, At: at})
			}
		}
		if b.Term.Arg >= 0 {
			by(b.Term.Arg, endOf(f, i))
		}
	}
}

// endOf is where a block ends.
func endOf(f api.Func, b int) api.Maker { return api.Maker{Block: b, At: len(f.Blocks[b].Ins)} }
