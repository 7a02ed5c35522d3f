package check

import "fettle/api"

// ofFunc is the error of the first of the rules 1 to 6 that isn't so. Each
// rule leans on those ahead of it: they bound how much there is to look at,
// and what may be looked up.
func ofFunc(m api.Module, f api.Func) error {
	switch {
	case !isWithin(f):
		return api.ErrLarge
	case !isTyped(f):
		return api.ErrType
	case !endsWell(f), !phisMeet(f):
		return api.ErrShape
	}
	for _, b := range f.Blocks {
		if err := ofBlock(m, f, b); err != nil {
			return err
		}
	}
	return nil
}

// isWithin is rule 1.
func isWithin(f api.Func) bool {
	if len(f.Blocks) < 1 || len(f.Blocks) > api.MaxBlocks || len(f.Regs) > api.MaxRegs {
		return false
	}
	items := len(f.Blocks)
	for _, b := range f.Blocks {
		items += len(b.Phis) + len(b.Ins)
	}
	return items <= api.MaxIns
}

// isTyped is rule 2.
func isTyped(f api.Func) bool {
	for _, t := range f.Regs {
		if t != api.TypeInt && t != api.TypeBool {
			return false
		}
	}
	if f.Params < 0 || f.Params > api.MaxParams || f.Params > len(f.Regs) {
		return false
	}
	return f.Result == api.TypeNone || f.Result == api.TypeInt || f.Result == api.TypeBool
}

// endsWell is rule 3.
func endsWell(f api.Func) bool {
	for _, b := range f.Blocks {
		if !hasItsTos(b.Term) {
			return false
		}
		for _, to := range b.Term.To {
			if to == 0 || !isAt(to, len(f.Blocks)) {
				return false
			}
		}
	}
	return true
}

// hasItsTos tells whether an end has as many Tos as its Kind asks for, none
// of them twice.
func hasItsTos(t api.Term) bool {
	switch t.Kind {
	case api.TermJump:
		return len(t.To) == 1
	case api.TermBranch:
		return len(t.To) == 2 && t.To[0] != t.To[1]
	case api.TermReturn:
		return len(t.To) == 0
	}
	return false
}

// phisMeet is rule 4.
func phisMeet(f api.Func) bool {
	ahead := Ahead(f)
	for i, b := range f.Blocks {
		for _, p := range b.Phis {
			if len(p.Args) != len(ahead[i]) {
				return false
			}
		}
	}
	return true
}

// ofBlock is the error of the first thing of a block at which rule 5 or 6
// isn't so.
func ofBlock(m api.Module, f api.Func, b api.Block) error {
	for _, p := range b.Phis {
		if err := ofPhi(f, p); err != nil {
			return err
		}
	}
	for _, in := range b.Ins {
		if err := ofInstr(m, f, in); err != nil {
			return err
		}
	}
	return ofTerm(f, b.Term)
}

// ofPhi is what the rules 5 and 6 say of a phi.
func ofPhi(f api.Func, p api.Phi) error {
	if !isAt(p.Dst, len(f.Regs)) || !areAt(p.Args, len(f.Regs)) {
		return api.ErrNone
	}
	for _, a := range p.Args {
		if f.Regs[a] != f.Regs[p.Dst] {
			return api.ErrType
		}
	}
	return nil
}

// ofTerm is what the rules 5 and 6 say of an end.
func ofTerm(f api.Func, t api.Term) error {
	want := argOf(f, t)
	if want == api.TypeNone {
		if t.Arg != -1 {
			return api.ErrType
		}
		return nil
	}
	if !isAt(t.Arg, len(f.Regs)) {
		return api.ErrNone
	}
	if f.Regs[t.Arg] != want {
		return api.ErrType
	}
	return nil
}

// argOf is the type that an end's Arg has to be of, TypeNone where it has
// to name none.
func argOf(f api.Func, t api.Term) int {
	switch t.Kind {
	case api.TermBranch:
		return api.TypeBool
	case api.TermReturn:
		return f.Result
	}
	return api.TypeNone
}

// areAt tells whether all of a list are numbers of so many.
func areAt(list []int, many int) bool {
	for _, i := range list {
		if !isAt(i, many) {
			return false
		}
	}
	return true
}
