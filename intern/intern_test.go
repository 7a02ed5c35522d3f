package intern_test

import (
	"errors"
	"math"
	"testing"

	"fettle/api"
	"fettle/intern"
)

// P10.2: the chapter's example.
func TestExample(t *testing.T) {
	table := fresh(t, 2)
	putIs(t, table, num(4), 1)
	putIs(t, table, num(7), 0)
	findIs(t, table, num(4), 1)
}

// P10.1: 1 to MaxShards drawers, and no values.
func TestNew(t *testing.T) {
	for shards := 1; shards <= api.MaxShards; shards++ {
		table := fresh(t, shards)
		lenIs(t, table, 0)
		valuesAre(t, table)
		ranksAre(t, table, nil)
		isNotThere(t, table, num(0))
		isNotThere(t, table, truth(0))
		for h := range 3 * api.MaxShards {
			hasNone(t, table, h)
		}
	}
}

// P10.1, R3: as many drawers as may not be.
func TestNewFails(t *testing.T) {
	for _, shards := range []int{0, -1, -2, -16, 17, 18, 32, 64, 257, 1 << 32, 1<<32 + 1, math.MaxInt, math.MinInt, math.MinInt + 1} {
		table, err := intern.New(shards)
		if table != nil || err != api.ErrArg || !errors.Is(err, api.ErrArg) {
			t.Errorf("New(%d): %v, %v, want nil, %v", shards, table, err, api.ErrArg)
		}
	}
}

// P10.1: how many values a table has; each counts once, what is refused
// doesn't.
func TestLen(t *testing.T) {
	table := fresh(t, 3)
	for i, v := range []api.Value{num(0), num(1), truth(0), truth(1), num(-1), num(math.MinInt64), num(math.MaxInt64)} {
		put(t, table, v)
		lenIs(t, table, i+1)
		put(t, table, v)
		put(t, table, num(0))
		table.Put(api.TypeBool, 2)
		table.Put(api.TypeNone, 0)
		table.Find(api.TypeInt, 77)
		lenIs(t, table, i+1)
	}
}

// P10.2: a drawer is the lowest 32 bits and the type together, without a sign,
// modulo how many there are: each value's first handle is its drawer.
func TestDrawer(t *testing.T) {
	for _, x := range []struct {
		shards int
		v      api.Value
		drawer int
	}{
		{1, num(0), 0}, {1, num(-1), 0}, {1, truth(1), 0}, {1, num(math.MaxInt64), 0},
		{2, num(0), 1}, {2, num(1), 0}, {2, truth(0), 0}, {2, truth(1), 1},
		{3, num(0), 1}, {3, num(1), 2}, {3, num(2), 0}, {3, truth(0), 2}, {3, truth(1), 0},
		{16, num(14), 15}, {16, num(15), 0}, {16, num(16), 1}, {16, truth(0), 2}, {16, truth(1), 3},
		{16, num(-1), 0}, {16, num(-2), 15}, {16, num(-16), 1},
		// -2 is 2^32 - 2 without a sign: with 1 2^32 - 1, a multiple of 3, 5 and 15.
		{3, num(-2), 0}, {5, num(-2), 0}, {15, num(-2), 0}, {7, num(-2), 3}, {13, num(-2), 8},
		{3, num(-3), 2}, {5, num(-3), 4}, {7, num(-3), 2}, {10, num(-3), 4},
		// -1 is 2^32 - 1: with 1 2^32, not 0.
		{3, num(-1), 1}, {5, num(-1), 1}, {6, num(-1), 4}, {7, num(-1), 4}, {10, num(-1), 6}, {11, num(-1), 4}, {13, num(-1), 9},
		// The highest 32 bits count for nothing.
		{3, num(1 << 32), 1}, {3, num(1<<32 + 1), 2}, {7, num(5 << 32), 1}, {7, num(-1 << 32), 1}, {7, num(-1<<32 + 4), 5},
		{5, num(math.MinInt64), 1}, {11, num(math.MinInt64 + 3), 4}, {5, num(math.MaxInt64), 1}, {7, num(math.MaxInt64), 4},
		// The highest of the lowest 32 is no sign.
		{3, num(1 << 31), 0}, {7, num(1 << 31), 3}, {7, num(-1 << 31), 3}, {7, num(1<<31 - 1), 2}, {9, num(1 << 31), 3},
	} {
		table := fresh(t, x.shards)
		putIs(t, table, x.v, x.drawer)
		if h, is := table.Find(x.v.Kind, x.v.V); h != x.drawer || !is {
			t.Errorf("of %d drawers, %v: Find: %d, %t, want %d", x.shards, x.v, h, is, x.drawer)
		}
	}
}

// P10.2: a handle is the place in the drawer, times how many drawers there
// are, and the drawer together; values stand as they came.
func TestHandles(t *testing.T) {
	table := fresh(t, 3)
	for i, v := range []api.Value{num(2), num(-1), num(5), truth(1), num(0), truth(0), num(-2), num(1), num(3)} {
		putIs(t, table, v, []int{0, 1, 3, 6, 4, 2, 9, 5, 7}[i])
	}
	one := fresh(t, 1)
	for i, v := range []api.Value{num(9), truth(1), num(-9), truth(0), num(0), num(1)} {
		putIs(t, one, v, i)
	}
	last := fresh(t, api.MaxShards)
	for i := range 20 {
		putIs(t, last, num(int64(14-16*i)), 16*i+15)
	}
}

// P10.2: what is there has its handle, however often and whenever it is put
// once more, and stays where it stands.
func TestPutOnceMore(t *testing.T) {
	table := fresh(t, 2)
	all := []api.Value{num(4), num(2), truth(1), num(0), num(-2), num(7), truth(0)}
	for i, v := range all {
		putIs(t, table, v, []int{1, 3, 5, 7, 9, 0, 2}[i])
		for k, w := range all[:i+1] {
			putIs(t, table, w, []int{1, 3, 5, 7, 9, 0, 2}[k])
		}
	}
	lenIs(t, table, len(all))
}

// P10.2: a number of one type isn't that of the other, nor one that is alike in
// its lowest 32 bits.
func TestUnlike(t *testing.T) {
	table := filled(t, 1, num(1), num(0))
	isNotThere(t, table, truth(1))
	isNotThere(t, table, truth(0))
	isNotThere(t, table, num(1<<32+1))
	isNotThere(t, table, num(-1))
	isNotThere(t, table, num(math.MinInt64))
	putIs(t, table, truth(0), 2)
	putIs(t, table, truth(1), 3)
	putIs(t, table, num(1<<32+1), 4)
	putIs(t, table, num(math.MinInt64), 5)
	valuesAre(t, table, num(math.MinInt64), num(0), num(1), num(1<<32+1), truth(0), truth(1))
}

// P10.2, R3: what is no value is refused, isn't found, and changes nothing.
func TestPutFails(t *testing.T) {
	table := filled(t, 5, num(3), truth(1), truth(0), num(-8))
	before := told(table)
	for _, v := range strangers() {
		putFails(t, table, v, api.ErrArg)
		isNotThere(t, table, v)
	}
	if after := told(table); after != before {
		t.Errorf("a table that refused all tells %s, not %s", after, before)
	}
}

// P10.2: what isn't there isn't found, and Find puts nothing.
func TestFind(t *testing.T) {
	table := filled(t, 4, num(3), num(7), truth(0))
	before := told(table)
	for _, v := range []api.Value{num(0), num(1), num(4), num(-3), truth(1), num(3 + 1<<32), num(math.MaxInt64)} {
		isNotThere(t, table, v)
		isNotThere(t, table, v)
	}
	findIs(t, table, num(3), 0)
	findIs(t, table, num(7), 4)
	findIs(t, table, truth(0), 2)
	if after := told(table); after != before {
		t.Errorf("a table that was asked tells %s, not %s", after, before)
	}
}

// P10.2: a handle has its value; none has one that lies behind its drawer's
// last one, in a drawer without values, or below 0.
func TestValue(t *testing.T) {
	table := filled(t, 3, num(2), num(5), num(-7), truth(0), num(math.MinInt64))
	want := map[int]api.Value{0: num(2), 3: num(5), 1: num(-7), 2: truth(0), 4: num(math.MinInt64)}
	for h := -40; h < 40; h++ {
		if v, is := want[h]; is {
			valueIs(t, table, h, v)
		} else {
			hasNone(t, table, h)
		}
	}
	alone := filled(t, 16, num(0))
	for h := range 100 {
		if h == 1 {
			valueIs(t, alone, h, num(0))
		} else {
			hasNone(t, alone, h)
		}
	}
	for _, h := range []int{math.MaxInt, math.MaxInt - 1, math.MinInt, math.MinInt + 1, 1 << 32, 1<<32 + 1, -1 << 32, 4096 * 16} {
		hasNone(t, table, h)
		hasNone(t, alone, h)
		hasNone(t, filled(t, 1, num(0)), h)
	}
}

// P10.2: a table of MaxValues takes no other one, but tells what is there, and
// refuses what is no value ahead of that (R1).
func TestFull(t *testing.T) {
	for shards := 1; shards <= api.MaxShards; shards++ {
		table := filled(t, shards, truth(1))
		for i := int64(1); i < api.MaxValues; i++ {
			lenIs(t, table, int(i))
			put(t, table, num(i*37-50000))
		}
		lenIs(t, table, api.MaxValues)
		before := told(table)
		putFails(t, table, truth(0), api.ErrFull)
		putFails(t, table, num(1), api.ErrFull)
		putFails(t, table, num(math.MinInt64), api.ErrFull)
		for _, v := range strangers() {
			putFails(t, table, v, api.ErrArg)
		}
		isNotThere(t, table, truth(0))
		isNotThere(t, table, num(1))
		putIs(t, table, truth(1), 3%shards)
		for _, v := range table.Values() {
			h := put(t, table, v)
			findIs(t, table, v, h)
			valueIs(t, table, h, v)
		}
		lenIs(t, table, api.MaxValues)
		if after := told(table); after != before {
			t.Errorf("a full table of %d drawers tells %s, not %s", shards, after, before)
		}
	}
}

// P10.2: it is the table that is full, not a drawer: all values may stand in
// one.
func TestFullDrawer(t *testing.T) {
	table := fresh(t, api.MaxShards)
	for i := range api.MaxValues {
		putIs(t, table, num(int64(i)*16+4), i*16+5)
	}
	putFails(t, table, num(0), api.ErrFull)
	putFails(t, table, num(-12), api.ErrFull)
	putIs(t, table, num(4), 5)
	putIs(t, table, num(4095*16+4), 4095*16+5)
	valueIs(t, table, 4095*16+5, num(4095*16+4))
	hasNone(t, table, 4096*16+5)
	hasNone(t, table, 0)
	lenIs(t, table, api.MaxValues)
}

// P10.3: by content: by types, then by numbers with their signs.
func TestOrder(t *testing.T) {
	want := append(nums(math.MinInt64, math.MinInt64+1, -1<<32, -1<<31, -3, -2, -1, 0, 1, 2, 3, 1<<31, 1<<32-1, 1<<32, 1<<63-2, math.MaxInt64), truth(0), truth(1))
	for shards := 1; shards <= api.MaxShards; shards++ {
		rising, falling := fresh(t, shards), fresh(t, shards)
		for i := range want {
			put(t, rising, want[i])
			put(t, falling, want[len(want)-1-i])
		}
		for _, table := range []*intern.Table{rising, falling} {
			valuesAre(t, table, want...)
			ranks := table.Ranks()
			for rank, v := range want {
				h, _ := table.Find(v.Kind, v.V)
				if got, is := ranks[h]; got != rank || !is {
					t.Errorf("of %d drawers, %v: rank %d, %t, want %d", shards, v, got, is, rank)
				}
			}
			if len(ranks) != len(want) {
				t.Errorf("of %d drawers: %d ranks, want %d", shards, len(ranks), len(want))
			}
		}
	}
}

// P10.3: values and ranks as they stand between one Put and another.
func TestRanks(t *testing.T) {
	table := fresh(t, 2)
	put(t, table, num(4))
	valuesAre(t, table, num(4))
	ranksAre(t, table, map[int]int{1: 0})
	put(t, table, num(7))
	valuesAre(t, table, num(4), num(7))
	ranksAre(t, table, map[int]int{1: 0, 0: 1})
	put(t, table, truth(0))
	valuesAre(t, table, num(4), num(7), truth(0))
	ranksAre(t, table, map[int]int{1: 0, 0: 1, 2: 2})
	put(t, table, num(-6))
	valuesAre(t, table, num(-6), num(4), num(7), truth(0))
	ranksAre(t, table, map[int]int{3: 0, 1: 1, 0: 2, 2: 3})
	put(t, table, num(4))
	ranksAre(t, table, map[int]int{3: 0, 1: 1, 0: 2, 2: 3})
}

// P10.4, R2: whoever changes what is told changes no table, nor what was told
// besides.
func TestNewMemory(t *testing.T) {
	for shards := 1; shards <= 4; shards++ {
		table := filled(t, shards, num(-2), num(0), num(5), truth(1))
		before := told(table)
		values, ranks := table.Values(), table.Ranks()
		others, otherRanks := table.Values(), table.Ranks()
		for i := range values {
			values[i] = api.Value{Kind: 77, V: 77}
		}
		_ = append(values[:0:cap(values)], nums(6, 6, 6, 6, 6, 6, 6, 6)...)
		clear(ranks)
		ranks[0], ranks[99] = 99, 99
		if after := told(table); after != before {
			t.Errorf("of %d drawers: changed, it tells %s, not %s", shards, after, before)
		}
		for _, v := range []api.Value{num(9), num(-9), truth(0), num(8), num(7)} {
			put(t, table, v)
		}
		if len(others) != 4 || others[0] != num(-2) || others[3] != truth(1) || len(otherRanks) != 4 {
			t.Errorf("of %d drawers: what was told is %v, %v now", shards, others, otherRanks)
		}
		if got := len(table.Ranks()); got != 9 {
			t.Errorf("of %d drawers: %d ranks, want 9", shards, got)
		}
	}
}

// P10.4: tables have nothing to do with one another.
func TestTwoTables(t *testing.T) {
	a, b := filled(t, 2, num(1), num(2)), filled(t, 2, num(2), num(1), truth(0))
	putIs(t, a, num(3), 2)
	lenIs(t, b, 3)
	isNotThere(t, b, num(3))
	findIs(t, b, num(2), 1)
	putIs(t, b, num(5), 4)
	valuesAre(t, a, nums(1, 2, 3)...)
	valuesAre(t, b, num(1), num(2), num(5), truth(0))
	ranksAre(t, a, map[int]int{0: 0, 1: 1, 2: 2})
	lenIs(t, fresh(t, 2), 0)
}
