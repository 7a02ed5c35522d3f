package intern_test

import (
	"cmp"
	"fmt"
	"math"
	"math/big"
	"math/rand"
	"slices"
	"testing"

	"fettle/api"
	"fettle/intern"
)

// row tells the chapter once more, as its words stand: values in one row, as
// they came, whatever their drawers.
type row struct {
	shards int
	all    []api.Value
}

// drawer is a value's, in numbers of any size.
func (r *row) drawer(v api.Value) int {
	n := new(big.Int).And(big.NewInt(v.V), big.NewInt(1<<32-1))
	n.Add(n, big.NewInt(int64(v.Kind)))
	return int(n.Mod(n, big.NewInt(int64(r.shards))).Int64())
}

// handles are the values' handles, in the row's order.
func (r *row) handles() []int {
	var l []int
	many := make([]int, r.shards)
	for _, v := range r.all {
		d := r.drawer(v)
		l = append(l, many[d]*r.shards+d)
		many[d]++
	}
	return l
}

// put is what Put answers.
func (r *row) put(v api.Value) (int, error) {
	if v.Kind != 1 && v.Kind != 2 || v.Kind == 2 && v.V != 0 && v.V != 1 {
		return 0, api.ErrArg
	}
	if i := slices.Index(r.all, v); i >= 0 {
		return r.handles()[i], nil
	}
	if len(r.all) == 4096 {
		return 0, api.ErrFull
	}
	r.all = append(r.all, v)
	return r.handles()[len(r.all)-1], nil
}

// sorted are all by content.
func (r *row) sorted() []api.Value {
	l := slices.Clone(r.all)
	slices.SortFunc(l, func(a, b api.Value) int {
		if a.Kind != b.Kind {
			return cmp.Compare(a.Kind, b.Kind)
		}
		return cmp.Compare(a.V, b.V)
	})
	return l
}

// holds holds a table against the row.
func (r *row) holds(t *testing.T, table *intern.Table) {
	t.Helper()
	lenIs(t, table, len(r.all))
	sorted, handles := r.sorted(), r.handles()
	valuesAre(t, table, sorted...)
	ranks := map[int]int{}
	has := map[int]api.Value{}
	for i, v := range r.all {
		h := handles[i]
		has[h] = v
		ranks[h] = slices.Index(sorted, v)
		findIs(t, table, v, h)
	}
	if len(has) != len(r.all) {
		t.Errorf("%v: two values have one handle", r)
	}
	ranksAre(t, table, ranks)
	for h := -2 * r.shards; h < (len(r.all)+2)*r.shards; h++ {
		if v, is := has[h]; is {
			valueIs(t, table, h, v)
		} else {
			hasNone(t, table, h)
		}
	}
}

// puts puts a value to both.
func (r *row) puts(t *testing.T, table *intern.Table, v api.Value) {
	t.Helper()
	want, wrong := r.put(v)
	if h, err := table.Put(v.Kind, v.V); h != want || err != wrong {
		t.Errorf("of %d drawers, Put(%d, %d): %d, %v, want %d, %v", r.shards, v.Kind, v.V, h, err, want, wrong)
	}
}

// P10.1 to P10.3, P10.5: all rows of four of some values, and of what is none,
// in up to five drawers.
func TestAllRows(t *testing.T) {
	some := []api.Value{num(0), num(1), num(-1), num(1<<32 + 1), truth(0), truth(1), truth(2), {Kind: 0, V: 0}}
	for shards := 1; shards <= 5; shards++ {
		for n := range len(some) * len(some) * len(some) * len(some) {
			r, table := &row{shards: shards}, fresh(t, shards)
			for range 4 {
				r.puts(t, table, some[n%len(some)])
				n /= len(some)
			}
			r.holds(t, table)
		}
		if t.Failed() {
			return
		}
	}
}

// anyValue is any value, or none: of few, so that some come again, or of all.
func anyValue(pick *rand.Rand) api.Value {
	v := api.Value{Kind: 1, V: int64(pick.Uint64()) >> pick.Intn(64)}
	switch pick.Intn(12) {
	case 0:
		return truth(int64(pick.Intn(2)))
	case 1:
		v.Kind = pick.Intn(5) - 1
	case 2, 3, 4:
		v.V = int64(pick.Intn(40) - 20)
	case 5:
		v.V = int64(pick.Intn(40)-20) << 32
	case 6:
		v.V = int64(math.MinInt64) + int64(pick.Intn(8)) - 4 // and, wrapped round, the greatest
	}
	return v
}

// P10.1 to P10.3, P10.5: any puts in as many drawers as may be.
func TestAny(t *testing.T) {
	for seed := range int64(400) {
		pick := rand.New(rand.NewSource(seed))
		r := &row{shards: 1 + int(seed)%api.MaxShards}
		table := fresh(t, r.shards)
		for range pick.Intn(120) {
			r.puts(t, table, anyValue(pick))
			if pick.Intn(8) == 0 {
				r.holds(t, table)
			}
		}
		r.holds(t, table)
		if t.Failed() {
			t.Fatal("seed", seed)
		}
	}
}

// P10.5: in whatever order and however many drawers: the same Values, and of
// each value the same rank.
func TestWhateverOrder(t *testing.T) {
	for seed := range int64(60) {
		pick := rand.New(rand.NewSource(seed))
		var all []api.Value
		for range pick.Intn(300) {
			if v := anyValue(pick); v.Kind == 1 {
				all = append(all, v)
			}
		}
		all = append(all, truth(1), truth(0))
		first := filled(t, 1, all...)
		values, ranks := fmt.Sprint(first.Values()), rankOf(t, first, all)
		for shards := 1; shards <= api.MaxShards; shards++ {
			put := slices.Clone(all)
			pick.Shuffle(len(put), func(i, k int) { put[i], put[k] = put[k], put[i] })
			table := filled(t, shards, append(put, put[:len(put)/2]...)...)
			if got := fmt.Sprint(table.Values()); got != values {
				t.Errorf("seed %d, of %d drawers: Values %s, want %s", seed, shards, got, values)
			}
			if got := rankOf(t, table, all); got != ranks {
				t.Errorf("seed %d, of %d drawers: ranks %s, want %s", seed, shards, got, ranks)
			}
		}
	}
}

// rankOf is each value's rank, in words.
func rankOf(t *testing.T, table *intern.Table, all []api.Value) string {
	t.Helper()
	text := ""
	ranks := table.Ranks()
	for _, v := range all {
		h, found := table.Find(v.Kind, v.V)
		rank, is := ranks[h]
		if !found || !is {
			t.Errorf("%v: handle %d, %t, rank %d, %t", v, h, found, rank, is)
		}
		text += fmt.Sprint(rank, " ")
	}
	return text
}

// P10.5: no value has two handles, no handle two values, up to the last one.
func TestOneHandle(t *testing.T) {
	for shards := 1; shards <= api.MaxShards; shards++ {
		pick := rand.New(rand.NewSource(int64(shards)))
		table := fresh(t, shards)
		handleOf, valueOf := map[api.Value]int{}, map[int]api.Value{}
		for range 12000 {
			v := anyValue(pick)
			h, err := table.Put(v.Kind, v.V)
			if err != nil {
				continue
			}
			if before, is := handleOf[v]; is && before != h {
				t.Errorf("%v has handles %d and %d", v, before, h)
			}
			if before, is := valueOf[h]; is && before != v {
				t.Errorf("%d has values %v and %v", h, before, v)
			}
			handleOf[v], valueOf[h] = h, v
		}
		lenIs(t, table, len(handleOf))
		if table.Len() != api.MaxValues || len(table.Ranks()) != len(valueOf) {
			t.Errorf("of %d drawers: %d values, %d ranks of %d handles", shards, table.Len(), len(table.Ranks()), len(valueOf))
		}
	}
}

// P1: whatever the arguments, each call ends, and none panics.
func TestAnyArguments(t *testing.T) {
	edges := []int64{0, 1, 2, 3, -1, -2, 15, 16, 17, 4095, 4096, 4097, 1 << 31, -1 << 31, 1 << 32, -1 << 32, math.MaxInt64, math.MinInt64, math.MinInt64 + 1}
	for _, shards := range edges {
		table, err := intern.New(int(shards))
		if (err == nil) != (shards >= 1 && shards <= 16) {
			t.Errorf("New(%d): %v", shards, err)
		}
		if err != nil {
			continue
		}
		for _, kind := range edges {
			for _, v := range edges {
				table.Find(int(kind), v)
				_, err := table.Put(int(kind), v)
				if is := kind == 1 || kind == 2 && (v == 0 || v == 1); is != (err == nil) {
					t.Errorf("Put(%d, %d): %v", kind, v, err)
				}
				table.Value(int(v))
			}
		}
		lenIs(t, table, len(edges)+2)
	}
}
