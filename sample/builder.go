package sample

import (
	"slices"
	"strconv"

	"fettle/api"
)

// Builder builds a module's f-th function, as layer 12 does, and those that
// stand on it.
type Builder func(m api.Module, f int) (api.Func, error)

// Built is what a function is built to, which has to be built.
func (build Builder) Built(t Test, what string, m api.Module, f int) api.Func {
	t.Helper()
	g, err := build(m, f)
	if err != nil {
		t.Fatal(what, ", function ", f, ": ", err)
	}
	return g
}

// All is a module with what its functions are built to in their places, each of
// the module as it was; those that aren't built stay.
func (build Builder) All(m api.Module) api.Module {
	n := m
	for f := range m.Funcs {
		if g, err := build(m, f); err == nil {
			n = With(n, f, g)
		}
	}
	return n
}

// Is holds that a module's f-th function is built to that.
func (build Builder) Is(t Test, what string, m api.Module, f int, want api.Func) {
	t.Helper()
	if got, want := Text(build.Built(t, what, m, f)), Text(want); got != want {
		t.Error(what, ", function ", f, ": ", got, "\nwant ", want)
	}
}

// Builds holds that a function is built to that, alone and among others.
func (build Builder) Builds(t Test, what string, f, want api.Func) {
	t.Helper()
	build.Is(t, what, Module(f), 0, want)
	build.Is(t, what+", behind others", Module(Quiet(1), Quiet(2), f), 2, want)
}

// Refuses holds that a function isn't built, and that nothing is told beside.
func (build Builder) Refuses(t Test, what string, m api.Module, f int, want error) {
	t.Helper()
	g, err := build(m, f)
	if !SameError(err, want) || g.Params != 0 || g.Result != 0 || g.Regs != nil || g.Blocks != nil {
		t.Error(what, ", function ", f, ": ", Text(g), ", ", err, ", want ", want, " alone")
	}
}

// RefusesAs holds that modules with a function at fault, alone and beside one of
// these others, are refused as they are checked, whatever the function that is
// asked for; and so is one of too many functions.
func (build Builder) RefusesAs(t Test, check func(m api.Module) error, faulty []api.Func, others ...api.Func) {
	t.Helper()
	all := []api.Module{Module(slices.Repeat([]api.Func{Quiet(1)}, api.MaxFuncs+1)...)}
	for _, f := range faulty {
		all = append(all, Module(f))
		for _, other := range others {
			all = append(all, Module(f, other), Module(other, f), Module(other, f, other))
		}
	}
	for i, m := range all {
		what, want := "faulty module "+strconv.Itoa(i), check(m)
		if want == nil {
			t.Error(what, ": not refused: ", moduleText(m))
		}
		for _, f := range append(Beyond(len(m.Funcs)), 0, len(m.Funcs)-1) {
			build.Refuses(t, what, m, f, want)
		}
	}
}

// RefusesNone holds that functions that aren't there are refused, of modules of
// none and of such ones.
func (build Builder) RefusesNone(t Test, l ...api.Func) {
	t.Helper()
	for n := range len(l) + 1 {
		for _, f := range Beyond(n) {
			build.Refuses(t, "so many functions: "+strconv.Itoa(n), Module(l[:n]...), f, api.ErrArg)
		}
	}
	build.Refuses(t, "nothing", api.Module{}, 0, api.ErrArg)
}

// TellsAnew holds that what a function is built to is new memory: written over
// it changes neither what was handed in nor what was told before, nor another
// list of the same answer.
func (build Builder) TellsAnew(t Test, what string, m api.Module, f int) {
	t.Helper()
	was, before := moduleText(m), build.Built(t, what, m, f)
	told := Text(before)
	Apart(t, what, build.Built(t, what, m, f))
	if now := moduleText(m); now != was {
		t.Error(what, ": handed in ", was, "\nnow it is ", now)
	}
	if now := Text(before); now != told {
		t.Error(what, ": told ", told, "\nnow it is ", now)
	}
}

// Leaves holds that what is handed in stays as it is, and what its lists have
// room for, too, whether a function is built or not.
func (build Builder) Leaves(t Test, what string, m api.Module, f int) {
	t.Helper()
	m = roomy(m)
	was := moduleText(wide(m))
	build(m, f)
	if now := moduleText(wide(m)); now != was {
		t.Error(what, ": handed in ", was, "\nnow it is ", now)
	}
}

// moduleText is a module as text.
func moduleText(m api.Module) string {
	var s string
	for _, f := range m.Funcs {
		s += Text(f) + "\n"
	}
	return s
}
