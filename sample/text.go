package sample

import (
	"strconv"
	"strings"

	"fettle/api"
)

// Text is a function as text, a line a block. All of it is told, but for
// whether a list of no elements is nil.
func Text(f api.Func) string {
	var s strings.Builder
	s.WriteString(strconv.Itoa(f.Params) + " parameters, result " + strconv.Itoa(f.Result) + ", registers" + numbers(f.Regs))
	for i, b := range f.Blocks {
		s.WriteString("\n\tblock " + strconv.Itoa(i) + ":")
		for _, p := range b.Phis {
			s.WriteString(" phi" + numbers([]int{p.Dst}) + " of" + numbers(p.Args) + ";")
		}
		for _, in := range b.Ins {
			s.WriteString(" op" + numbers([]int{in.Op, in.Dst}) + " of" + numbers(in.Args))
			s.WriteString(", " + strconv.FormatInt(in.Imm, 10) + numbers([]int{in.Fun}) + ";")
		}
		s.WriteString(" end" + numbers([]int{b.Term.Kind, b.Term.Arg}) + " to" + numbers(b.Term.To))
	}
	return s.String()
}

// numbers are numbers as text.
func numbers(l []int) string {
	var s strings.Builder
	for _, n := range l {
		s.WriteString(" " + strconv.Itoa(n))
	}
	return s.String()
}
