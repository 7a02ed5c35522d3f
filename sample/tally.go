package sample

// Test is what is asked of a test.
type Test interface {
	Helper()
	Error(args ...any)
	Fatal(args ...any)
}

// Tally counts what any modules were like, so that none of it is missed.
type Tally map[string]int

// Add counts what a module was like, if it was.
func (n Tally) Add(what string, is bool) {
	if is {
		n[what]++
	}
}

// Enough holds that each of these was counted often enough.
func (n Tally) Enough(t Test, of ...string) {
	t.Helper()
	for _, what := range of {
		if n[what] < 100 {
			t.Error("too few ", what, ": ", n)
		}
	}
}

// Never holds that none of these was counted.
func (n Tally) Never(t Test, of ...string) {
	t.Helper()
	for _, what := range of {
		if n[what] > 0 {
			t.Error(what, ": ", n)
		}
	}
}
