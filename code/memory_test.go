package code_test

import (
	"bytes"
	"fmt"
	"slices"
	"testing"

	"fettle/api"
	"fettle/code"
)

// numbersOf are all lists of numbers of a module.
func numbersOf(m api.Module) [][]int {
	var l [][]int
	for _, f := range m.Funcs {
		l = append(l, f.Regs)
		for _, b := range f.Blocks {
			for _, p := range b.Phis {
				l = append(l, p.Args)
			}
			for _, in := range b.Ins {
				l = append(l, in.Args)
			}
			l = append(l, b.Term.To)
		}
	}
	return l
}

// behindEach puts one more behind each list of a module, into what room it
// has there.
func behindEach(m api.Module) {
	for _, l := range numbersOf(m) {
		_ = append(l, 77)
	}
	_ = append(m.Funcs, api.Func{Params: 77})
	for _, f := range m.Funcs {
		_ = append(f.Blocks, api.Block{Ins: []api.Instr{{Op: 77}}})
		for _, b := range f.Blocks {
			_ = append(b.Phis, api.Phi{Dst: 77})
			_ = append(b.Ins, api.Instr{Op: 77})
		}
	}
}

// P3.3, R2: no two lists of a module that is told share anything.
func TestDecodedSharesNothing(t *testing.T) {
	for _, x := range proper() {
		m := decoded(t, x.name, bytesOf(x.m))
		behindEach(m)
		if !same(m, x.m) {
			t.Errorf("%s: a list has room that is another one's", x.name)
		}
		l := numbersOf(m)
		for i, list := range l {
			for j := range list {
				list[j] = i
			}
		}
		for i, list := range l {
			if slices.ContainsFunc(list, func(n int) bool { return n != i }) {
				t.Errorf("%s: list %d is another one, too", x.name, i)
			}
		}
	}
}

// P3.3: the bytes handed in stay as they are, and aren't kept.
func TestDecodeKeepsNothing(t *testing.T) {
	for _, x := range proper() {
		want := bytesOf(x.m)
		whole := append(slices.Clone(want), 1, 2, 3)
		b := whole[:len(want)]
		m := decoded(t, x.name, b)
		if !bytes.Equal(whole, append(slices.Clone(want), 1, 2, 3)) {
			t.Errorf("%s: Decode changed the bytes", x.name)
		}
		clear(whole)
		if !same(m, x.m) {
			t.Errorf("%s: the module goes with the bytes", x.name)
		}
		behindEach(m)
		for _, list := range numbersOf(m) {
			clear(list)
		}
		clear(m.Funcs)
		if again := decoded(t, x.name, want); !same(again, x.m) {
			t.Errorf("%s: Decode once more: %v", x.name, again)
		}
	}
	for i := range bytesOf(all()) {
		b := bytesOf(all())[:i]
		code.Decode(b)
		if !bytes.Equal(b, bytesOf(all())[:i]) {
			t.Error("Decode changed what it refused")
		}
	}
}

// P3.3: the module handed in stays as it is, and isn't kept; the bytes told
// are new each time.
func TestEncodeKeepsNothing(t *testing.T) {
	l := proper()
	for i, m := range improper() {
		l = append(l, named{fmt.Sprint("improper ", i), m})
	}
	for _, x := range l {
		before := fmt.Sprint(x.m)
		b, err := code.Encode(x.m)
		if fmt.Sprint(x.m) != before {
			t.Errorf("%s: Encode changed it", x.name)
		}
		if err != nil {
			continue
		}
		want := bytesOf(x.m)
		whole := b[:cap(b)]
		for i := range whole {
			whole[i] = 0xee
		}
		if again := encoded(t, x.name, x.m); !bytes.Equal(again, want) {
			t.Errorf("%s: Encode once more: % x", x.name, again)
		}
	}
}

// P3.3: a module that is changed behind Encode doesn't change its bytes.
func TestEncodedStays(t *testing.T) {
	m := all()
	want := bytesOf(m)
	b := encoded(t, "all", m)
	for _, list := range numbersOf(m) {
		clear(list)
	}
	clear(m.Funcs)
	if !bytes.Equal(b, want) {
		t.Error("the bytes go with the module")
	}
}

// P3.3, R2: what was told earlier doesn't go with what is told later.
func TestEarlierAnswersStay(t *testing.T) {
	var told [][]byte
	var modules []api.Module
	for _, x := range proper() {
		told = append(told, encoded(t, x.name, x.m))
		modules = append(modules, decoded(t, x.name, bytesOf(x.m)))
		code.Encode(module(api.Func{}))
		code.Decode([]byte("ftl1\x01\x01\x01\x05\x01\x01"))
	}
	for i, x := range proper() {
		if !bytes.Equal(told[i], bytesOf(x.m)) {
			t.Errorf("%s: the bytes became % x", x.name, told[i])
		}
		if !same(modules[i], x.m) {
			t.Errorf("%s: the module became %v", x.name, modules[i])
		}
	}
}
