package sample

import (
	"slices"
	"strconv"

	"fettle/api"
)

// Runner runs a module's f-th function, as layer 4 does.
type Runner func(m api.Module, f int, args []int64, steps int) (api.Outcome, error)

// DoesTheSame holds that what a module's f-th function does within some steps
// is done by another module's, with so many more for each of them. It tells
// what both did, if that was done.
func DoesTheSame(t Test, what string, run Runner, m, n api.Module, f int, args []int64, more int) (want, got api.Outcome) {
	t.Helper()
	want, err := run(m, f, args, 1000)
	if err != nil || !want.Done {
		return api.Outcome{}, api.Outcome{}
	}
	got, err = run(n, f, args, want.Steps*(1+more))
	if err != nil || !alike(got, want) {
		t.Error(what, ", ", args, ": ", got, err, ", want ", want)
	}
	return want, got
}

// Tries holds that each function of a module, with any arguments, does in another
// one what it did, with so many more steps for each. It counts what was done.
func (n Tally) Tries(t Test, what string, run Runner, pick Pick, was, now api.Module, more int) {
	t.Helper()
	for f := range was.Funcs {
		from := what + ", from " + strconv.Itoa(f)
		want, got := DoesTheSame(t, from, run, was, now, f, Args(pick, was.Funcs[f]), more)
		n.Add("done", got.Done)
		n.Add("trapped", got.Trap != 0)
		n.Add("returned", got.Value != 0)
		n.Add("stored", got.Memory != [api.Words]int64{})
		n.Add("put out", len(got.Out) > 0)
		n.Add("more steps", got.Steps > want.Steps)
		n.Add("fewer steps", got.Steps < want.Steps)
		n.Add("long", want.Steps > 40)
	}
}

// EnoughTries holds that all of that was done often enough.
func (n Tally) EnoughTries(t Test) {
	t.Helper()
	n.Enough(t, "done", "trapped", "returned", "stored", "put out", "long")
}

// alike tells whether two outcomes are alike in all but the steps.
func alike(a, b api.Outcome) bool {
	return a.Done == b.Done && a.Trap == b.Trap && a.Value == b.Value && slices.Equal(a.Out, b.Out) && a.Memory == b.Memory
}
