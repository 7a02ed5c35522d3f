package intern_test

import (
	"errors"
	"fmt"
	"maps"
	"math"
	"slices"
	"testing"

	"fettle/api"
	"fettle/intern"
)

// num is an int, truth a bool.
func num(v int64) api.Value   { return api.Value{Kind: api.TypeInt, V: v} }
func truth(v int64) api.Value { return api.Value{Kind: api.TypeBool, V: v} }

// nums are ints.
func nums(l ...int64) []api.Value {
	var all []api.Value
	for _, v := range l {
		all = append(all, num(v))
	}
	return all
}

// fresh is a table without values.
func fresh(t *testing.T, shards int) *intern.Table {
	t.Helper()
	table, err := intern.New(shards)
	if err != nil || table == nil {
		t.Fatalf("New(%d): %v, %v", shards, table, err)
	}
	return table
}

// filled is a table to which these were put.
func filled(t *testing.T, shards int, all ...api.Value) *intern.Table {
	t.Helper()
	table := fresh(t, shards)
	for _, v := range all {
		put(t, table, v)
	}
	return table
}

// put puts what may be put, and answers its handle.
func put(t *testing.T, table *intern.Table, v api.Value) int {
	t.Helper()
	h, err := table.Put(v.Kind, v.V)
	if err != nil {
		t.Fatalf("Put(%d, %d): %v", v.Kind, v.V, err)
	}
	return h
}

// putIs holds that a value gets this handle.
func putIs(t *testing.T, table *intern.Table, v api.Value, want int) {
	t.Helper()
	if h, err := table.Put(v.Kind, v.V); h != want || err != nil {
		t.Errorf("Put(%d, %d): %d, %v, want %d", v.Kind, v.V, h, err, want)
	}
}

// putFails holds that a value is refused so: the error itself, and 0.
func putFails(t *testing.T, table *intern.Table, v api.Value, want api.Code) {
	t.Helper()
	if h, err := table.Put(v.Kind, v.V); h != 0 || err != want || !errors.Is(err, want) {
		t.Errorf("Put(%d, %d): %d, %v, want 0, %v", v.Kind, v.V, h, err, want)
	}
}

// findIs holds that a value has this handle.
func findIs(t *testing.T, table *intern.Table, v api.Value, want int) {
	t.Helper()
	if h, is := table.Find(v.Kind, v.V); h != want || !is {
		t.Errorf("Find(%d, %d): %d, %t, want %d, true", v.Kind, v.V, h, is, want)
	}
}

// isNotThere holds that a value has none.
func isNotThere(t *testing.T, table *intern.Table, v api.Value) {
	t.Helper()
	if h, is := table.Find(v.Kind, v.V); h != 0 || is {
		t.Errorf("Find(%d, %d): %d, %t, want 0, false", v.Kind, v.V, h, is)
	}
}

// valueIs holds that a handle has this value.
func valueIs(t *testing.T, table *intern.Table, h int, want api.Value) {
	t.Helper()
	if kind, v, err := table.Value(h); kind != want.Kind || v != want.V || err != nil {
		t.Errorf("Value(%d): %d, %d, %v, want %d, %d", h, kind, v, err, want.Kind, want.V)
	}
}

// hasNone holds that a handle has no value: the error itself, and 0 and 0.
func hasNone(t *testing.T, table *intern.Table, h int) {
	t.Helper()
	if kind, v, err := table.Value(h); kind != 0 || v != 0 || err != api.ErrNone || !errors.Is(err, api.ErrNone) {
		t.Errorf("Value(%d): %d, %d, %v, want 0, 0, %v", h, kind, v, err, api.ErrNone)
	}
}

// lenIs holds how many values a table has.
func lenIs(t *testing.T, table *intern.Table, want int) {
	t.Helper()
	if n := table.Len(); n != want {
		t.Errorf("Len(): %d, want %d", n, want)
	}
}

// valuesAre holds which values a table has, in their order.
func valuesAre(t *testing.T, table *intern.Table, want ...api.Value) {
	t.Helper()
	if got := table.Values(); !slices.Equal(got, want) {
		t.Errorf("Values(): %v, want %v", got, want)
	}
}

// ranksAre holds a table's ranks.
func ranksAre(t *testing.T, table *intern.Table, want map[int]int) {
	t.Helper()
	if got := table.Ranks(); !maps.Equal(got, want) {
		t.Errorf("Ranks(): %v, want %v", got, want)
	}
}

// strangers are what is no value.
func strangers() []api.Value {
	var all []api.Value
	for _, kind := range []int{api.TypeNone, -1, -2, 3, 4, 257, 258, 1<<32 + 1, 1<<32 + 2, math.MaxInt, math.MinInt, math.MinInt + 1} {
		for _, v := range []int64{0, 1, 2, -1, math.MaxInt64, math.MinInt64} {
			all = append(all, api.Value{Kind: kind, V: v})
		}
	}
	for _, v := range []int64{2, 3, -1, -2, 256, 257, 1 << 32, 1<<32 + 1, math.MaxInt64, math.MinInt64, math.MinInt64 + 1} {
		all = append(all, truth(v))
	}
	return all
}

// told is all that a table tells of itself, in words.
func told(table *intern.Table) string {
	text := fmt.Sprint(table.Len(), table.Values(), table.Ranks())
	for h := range 64 {
		kind, v, err := table.Value(h)
		text += fmt.Sprint(" ", kind, v, err)
	}
	return text
}
