package sample

import (
	"strconv"

	"fettle/api"
)

// EachPlain goes through the functions of any plain modules, and then through
// functions of many blocks, over few registers.
func EachPlain(pick Pick, by func(what string, m api.Module, f int)) {
	for i := range 900 {
		m := Plain(pick)
		for f := range m.Funcs {
			by("module "+strconv.Itoa(i)+", function "+strconv.Itoa(f), m, f)
		}
	}
	for i := range 900 {
		blocks := api.MaxBlocks - pick(api.MaxBlocks-1)/(1+i%4)
		by("far "+strconv.Itoa(i), Module(Far(pick, blocks)), 0)
	}
}

// EachBuilt goes through such functions, too, but with what they are built to
// in their place, where they are.
func EachBuilt(pick Pick, build Builder, by func(what string, m api.Module, f int)) {
	EachPlain(pick, func(what string, m api.Module, f int) {
		if g, err := build(m, f); err == nil {
			by(what, With(m, f, g), f)
		}
	})
}

// EachOfForm goes through such functions, too, that were changed as long as
// they stay of the form.
func EachOfForm(pick Pick, build Builder, form func(m api.Module, f int) error, by func(what string, m api.Module, f int)) {
	EachBuilt(pick, build, func(what string, m api.Module, f int) {
		for i := range 20 {
			g := Copy(m.Funcs[f])
			if mix(pick, g); i%4 == 0 {
				Change(pick, g)
			}
			if changed := With(m, f, g); form(changed, f) == nil {
				m = changed
			}
		}
		by(what, m, f)
	})
}

// EachOdd goes through modules of any functions, proper or not.
func EachOdd(pick Pick, by func(what string, m api.Module)) {
	for i := range 6000 {
		m := Module(Odd(pick))
		if pick(2) == 0 {
			m.Funcs = append(m.Funcs, Odd(pick))
		}
		by("module "+strconv.Itoa(i), m)
	}
}
