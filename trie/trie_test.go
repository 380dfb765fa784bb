package trie_test

import (
	"fmt"
	"math"
	"slices"
	"testing"

	"umlaut/api"
	"umlaut/trie"
)

const (
	last   = 0x1100FF
	blocks = 17412
	most   = math.MaxInt32
	least  = math.MinInt32
)

// numbers is the plain trie: the number of each sign, one behind the other.
type numbers []int

// of reads pairs, none of which is wrong.
func of(l []trie.Pair) numbers {
	n := make(numbers, last+1)
	for _, p := range l {
		n[p.C] = p.V
	}
	return n
}

func (n numbers) pairs() []trie.Pair {
	var l []trie.Pair
	for c, v := range n {
		if v != 0 {
			l = append(l, trie.Pair{C: c, V: v})
		}
	}
	return l
}

// blocks sorts all blocks, and counts those that are not like the one ahead of them.
func (n numbers) blocks() int {
	l := slices.SortedFunc(slices.Chunk(n, 64), slices.Compare)
	return len(slices.CompactFunc(l, slices.Equal))
}

// agree holds all that got tells against the plain numbers.
func agree(t *testing.T, name string, got *trie.Trie, want numbers) {
	t.Helper()
	for c, v := range want {
		if g := got.Get(c); g != v {
			t.Fatalf("%s: Get(%#x) = %d; want %d", name, c, g, v)
		}
	}
	for i := range 130 {
		if got.Get(-1-i) != 0 || got.Get(last+1+i) != 0 {
			t.Fatalf("%s: a sign %d beyond has a number", name, i+1)
		}
	}
	if b, w := got.Blocks(), want.blocks(); b != w {
		t.Fatalf("%s: Blocks = %d; want %d", name, b, w)
	}
	if l := got.Pairs(); !slices.Equal(l, want.pairs()) {
		t.Fatalf("%s: Pairs are not those that are not 0, by rising signs", name)
	}
}

// short tells pairs by their first ones.
func short(l []trie.Pair) string {
	return fmt.Sprint(l[:min(len(l), 6)], " of ", len(l))
}

// built is the trie of pairs, none of which is wrong.
func built(t *testing.T, l []trie.Pair) *trie.Trie {
	t.Helper()
	got, e := trie.Build(l)
	if got == nil || e != api.OK {
		t.Fatalf("Build(%s) = %t, %d", short(l), got != nil, e)
	}
	return got
}

// each is pairs of all signs, whose numbers f tells.
func each(f func(c int) int) []trie.Pair {
	l := make([]trie.Pair, last+1)
	for c := range l {
		l[c] = trie.Pair{C: c, V: f(c)}
	}
	return l
}

// outside holds numbers that are no signs.
func outside() []int {
	return []int{-1, -2, -63, -64, -65, -last - 1, last + 1, last + 2, last + 64, last + 65, 2 * (last + 1), 1 << 32, 1<<32 + 5, -1 << 32, math.MinInt32, math.MaxInt32, math.MinInt, math.MinInt + 1, math.MaxInt - 1, math.MaxInt}
}

// wide holds numbers that are no int32.
func wide() []int {
	return []int{most + 1, most + 2, least - 1, least - 2, 1 << 32, 1<<32 + 1, -1 << 32, 1<<32 - 1, 1 << 40, math.MinInt, math.MinInt + 1, math.MaxInt - 1, math.MaxInt}
}

type kind struct {
	name   string
	l      []trie.Pair
	blocks int
}

// kinds holds what a trie may be made of, and how many unlike blocks that has, by hand.
func kinds() []kind {
	return []kind{
		{"none", nil, 1},
		{"none, not nil", []trie.Pair{}, 1},
		{"one", []trie.Pair{{5, 1}}, 2},
		{"two like blocks", []trie.Pair{{5, 1}, {69, 1}}, 2},
		{"two blocks of unlike places", []trie.Pair{{5, 1}, {70, 1}}, 3},
		{"two blocks of unlike numbers", []trie.Pair{{5, 1}, {69, 2}}, 3},
		{"two of a block", []trie.Pair{{5, 1}, {6, 1}}, 2},
		{"the ends of a block", []trie.Pair{{64, 1}, {127, 1}}, 2},
		{"beside a block's end", []trie.Pair{{63, 1}, {64, 1}}, 3},
		{"like but for one", []trie.Pair{{64, 1}, {65, 2}, {128, 1}, {129, 2}, {192, 1}, {193, 3}}, 3},
		{"the one block turned", []trie.Pair{{64, 1}, {65, 2}, {128, 2}, {129, 1}}, 3},
		{"far apart", []trie.Pair{{0x10FFC1, 9}, {1, 9}, {0x80001, 9}}, 2},
		{"first and last sign", []trie.Pair{{0, 1}, {last, 1}}, 3},
		{"first sign of the last block", []trie.Pair{{0, 1}, {last - 63, 1}}, 2},
		{"falling", []trie.Pair{{0x1100FF, 3}, {0x4E00, 2}, {0x4DFF, 4}, {0x4DFE, 5}, {0, 1}}, 5},
		{"least and greatest", []trie.Pair{{0, least}, {1, most}, {2, -1}, {3, least + 1}, {4, most - 1}}, 2},
		{"lowest bits alike", []trie.Pair{{0, 1}, {64, 257}, {128, 65537}, {192, 1 << 24}, {256, -1}, {320, 255}, {384, 65535}}, 8},
		{"of 0", []trie.Pair{{5, 0}}, 1},
		{"of 0 and others", []trie.Pair{{6, 0}, {5, 1}, {69, 1}, {70, 0}, {last, 0}, {0, 0}, {0x5000, 0}}, 2},
		{"no code points", []trie.Pair{{0xD800, 1}, {0xDFFF, 2}, {0x110000, 3}, {0x11007F, 4}, {0x110080, 5}}, 6},
		{"all alike", each(func(c int) int { return c%64 + 1 }), 1},
		{"all of one number", each(func(c int) int { return -7 }), 1},
		{"all of 0", each(func(c int) int { return 0 }), 1},
		{"all alike but the last", each(func(c int) int { return c%64 + 1 + c/last }), 2},
		{"all alike but the last, which has none", each(func(c int) int { return c%64 + 1 })[:last+1-64], 2},
		{"all alike but the last sign, which has none", each(func(c int) int { return 1 })[:last], 2},
		{"all alike but the first", each(func(c int) int { return 1 })[1:], 2},
		{"all unlike", each(func(c int) int { return c + 1 }), blocks},
		{"all unlike, one of noughts", each(func(c int) int { return c / 64 }), blocks},
		{"unlike by turns", each(func(c int) int { return c / 64 % 2 }), 2},
		{"unlike by halves", each(func(c int) int { return c / 64 % (blocks / 2) }), blocks / 2},
	}
}

func TestBuild(t *testing.T) { // 4.1
	for _, x := range kinds() {
		got := built(t, x.l)
		agree(t, x.name, got, of(x.l))
		if n := got.Blocks(); n != x.blocks {
			t.Errorf("%s: Blocks = %d; want %d", x.name, n, x.blocks)
		}
	}
}

func TestBuildHangsOnNoOrder(t *testing.T) { // 4.1
	for _, x := range kinds() {
		// An odd step goes through a list whose length is a power of 2 once, in no order that is to be seen.
		mixed := make([]trie.Pair, 0, len(x.l))
		for i := range 1 << 21 {
			if at := i * 1234567 % (1 << 21); at < len(x.l) {
				mixed = append(mixed, x.l[at])
			}
		}
		agree(t, x.name, built(t, mixed), of(x.l))
	}
}

func TestGetByHand(t *testing.T) { // 4.1
	got := built(t, []trie.Pair{{0, 7}, {63, -1}, {64, 8}, {0x10FFFF, 9}, {last, most}, {last - 1, least}})
	for c, want := range map[int]int{
		0: 7, 1: 0, 62: 0, 63: -1, 64: 8, 65: 0, 0x10FFFE: 0, 0x10FFFF: 9, 0x110000: 0, last - 2: 0, last - 1: least, last: most,
		-1: 0, -64: 0, -63: 0, last + 1: 0, last + 64: 0, 1 << 32: 0, math.MinInt: 0, math.MaxInt: 0,
	} {
		if v := got.Get(c); v != want {
			t.Errorf("Get(%#x) = %d; want %d", c, v, want)
		}
	}
}

func TestGetOfNoSign(t *testing.T) { // 4.1
	for _, l := range [][]trie.Pair{nil, {{0, 1}, {last, 2}}, each(func(c int) int { return c + 1 })} {
		got := built(t, l)
		for _, c := range outside() {
			if v := got.Get(c); v != 0 {
				t.Errorf("Get(%d) = %d", c, v)
			}
		}
	}
}

// refuses asks that Build answers e of l, and nothing beside it.
func refuses(t *testing.T, l []trie.Pair, want api.Errno) {
	t.Helper()
	if got, e := trie.Build(l); got != nil || e != want {
		t.Errorf("Build(%s) = %t, %d; want an error %d alone", short(l), got != nil, e, want)
	}
}

func TestBuildWrong(t *testing.T) { // 4.1
	for _, c := range outside() {
		refuses(t, []trie.Pair{{c, 1}}, api.ErrArg)
		refuses(t, []trie.Pair{{c, 0}}, api.ErrArg)
		refuses(t, []trie.Pair{{0, 1}, {last, 1}, {c, 1}}, api.ErrArg)
		refuses(t, []trie.Pair{{c, 1}, {0, 1}, {last, 1}}, api.ErrArg)
		refuses(t, []trie.Pair{{c, 1}, {c, 1}}, api.ErrArg)
	}
	for _, v := range wide() {
		refuses(t, []trie.Pair{{5, v}}, api.ErrArg)
		refuses(t, []trie.Pair{{0, 1}, {5, v}, {last, 1}}, api.ErrArg)
		refuses(t, []trie.Pair{{-1, v}}, api.ErrArg)
		refuses(t, []trie.Pair{{5, v}, {5, v}}, api.ErrArg)
	}
	for _, c := range []int{0, 1, 63, 64, 0xD800, 0x10FFFF, 0x110000, last - 1, last} {
		refuses(t, []trie.Pair{{c, 1}, {c, 1}}, api.ErrThere)
		refuses(t, []trie.Pair{{c, 1}, {c, 2}}, api.ErrThere)
		refuses(t, []trie.Pair{{c, 0}, {c, 0}}, api.ErrThere)
		refuses(t, []trie.Pair{{c, 0}, {c, 1}}, api.ErrThere)
		refuses(t, []trie.Pair{{c, 1}, {c, 0}}, api.ErrThere)
		refuses(t, []trie.Pair{{c, least}, {2, 1}, {128, 1}, {0x8000, 1}, {c, most}}, api.ErrThere)
		refuses(t, append(each(func(c int) int { return c }), trie.Pair{C: c, V: c}), api.ErrThere)
		refuses(t, append([]trie.Pair{{c, c}}, each(func(c int) int { return c })...), api.ErrThere)
	}
}

// What is wrong in itself comes ahead of what is wrong together, wherever it stands.
func TestBuildWrongTwice(t *testing.T) { // 4.1
	for _, x := range []trie.Pair{{-1, 0}, {last + 1, 1}, {5, most + 1}, {7, least - 1}, {math.MinInt, math.MaxInt}} {
		refuses(t, []trie.Pair{{5, 1}, {5, 2}, x}, api.ErrArg)
		refuses(t, []trie.Pair{{5, 1}, x, {5, 2}}, api.ErrArg)
		refuses(t, []trie.Pair{x, {5, 1}, {5, 2}}, api.ErrArg)
	}
}

func TestPairsByHand(t *testing.T) { // 4.1
	for _, x := range []struct{ l, want []trie.Pair }{
		{nil, nil},
		{[]trie.Pair{{5, 0}, {last, 0}}, nil},
		{[]trie.Pair{{last, -1}, {70, 0}, {64, 2}, {5, least}, {0, most}, {63, 1}}, []trie.Pair{{0, most}, {5, least}, {63, 1}, {64, 2}, {last, -1}}},
		{[]trie.Pair{{69, 1}, {0x10000, 3}, {5, 1}, {0xFFFF, 4}, {6, 0}}, []trie.Pair{{5, 1}, {69, 1}, {0xFFFF, 4}, {0x10000, 3}}},
	} {
		if l := built(t, x.l).Pairs(); !slices.Equal(l, x.want) {
			t.Errorf("Pairs of %v = %v; want %v", x.l, l, x.want)
		}
	}
}

func TestThereAndBack(t *testing.T) { // 4.2
	for _, x := range kinds() {
		agree(t, x.name, built(t, built(t, x.l).Pairs()), of(x.l))
	}
}

func TestWithByHand(t *testing.T) { // 4.1
	for _, x := range []struct {
		name   string
		l      []trie.Pair
		c, v   int
		blocks int
		want   []trie.Pair
	}{
		{"there is none", nil, 5, 1, 2, []trie.Pair{{5, 1}}},
		{"none stays none", nil, 5, 0, 1, nil},
		{"there", []trie.Pair{{5, 1}}, 5, 2, 2, []trie.Pair{{5, 2}}},
		{"there with this number", []trie.Pair{{5, 1}}, 5, 1, 2, []trie.Pair{{5, 1}}},
		{"back to 0", []trie.Pair{{5, 1}}, 5, 0, 1, nil},
		{"back to 0 beside another", []trie.Pair{{5, 1}, {6, 2}}, 5, 0, 2, []trie.Pair{{6, 2}}},
		{"back to 0, a like block stays", []trie.Pair{{5, 1}, {69, 1}}, 69, 0, 2, []trie.Pair{{5, 1}}},
		{"back to 0, an unlike block stays", []trie.Pair{{5, 1}, {70, 1}}, 5, 0, 2, []trie.Pair{{70, 1}}},
		{"a block becomes like another", []trie.Pair{{5, 1}, {69, 2}}, 69, 1, 2, []trie.Pair{{5, 1}, {69, 1}}},
		{"a block becomes unlike another", []trie.Pair{{5, 1}, {69, 1}}, 69, 2, 3, []trie.Pair{{5, 1}, {69, 2}}},
		{"beside one of the block", []trie.Pair{{5, 1}}, 6, 1, 2, []trie.Pair{{5, 1}, {6, 1}}},
		{"behind the block", []trie.Pair{{63, 1}}, 64, 1, 3, []trie.Pair{{63, 1}, {64, 1}}},
		{"the first sign", nil, 0, -1, 2, []trie.Pair{{0, -1}}},
		{"the last sign", nil, last, most, 2, []trie.Pair{{last, most}}},
		{"the least number", []trie.Pair{{last, most}}, last, least, 2, []trie.Pair{{last, least}}},
	} {
		got, e := built(t, x.l).With(x.c, x.v)
		if got == nil || e != api.OK || got.Blocks() != x.blocks || !slices.Equal(got.Pairs(), x.want) {
			t.Fatalf("%s: With(%d, %d): %d", x.name, x.c, x.v, e)
		}
		agree(t, x.name, got, of(x.want))
	}
}

func TestWith(t *testing.T) { // 4.1, 4.3
	for _, x := range kinds() {
		old := built(t, x.l)
		for _, c := range []int{0, 69, last} {
			for _, v := range []int{0, least} {
				got, e := old.With(c, v)
				if got == nil || got == old || e != api.OK {
					t.Fatalf("%s: With(%#x, %d): %d", x.name, c, v, e)
				}
				want := of(x.l)
				want[c] = v
				agree(t, x.name, got, want)
			}
		}
		agree(t, x.name+" behind With", old, of(x.l))
	}
}

func TestWithInAllUnlike(t *testing.T) { // 4.1
	old := built(t, each(func(c int) int { return c/64 + 1 }))
	for _, x := range []struct{ c, v, blocks int }{
		{0, 1, blocks}, {0, 0, blocks}, {last, 1, blocks}, {last, blocks, blocks},
	} {
		got, e := old.With(x.c, x.v)
		if e != api.OK || got.Blocks() != x.blocks || got.Get(x.c) != x.v {
			t.Errorf("With(%#x, %d): %d, %d", x.c, x.v, got.Get(x.c), e)
		}
	}
	got := old
	for c := last - 63; c <= last; c++ {
		got, _ = got.With(c, 1)
	}
	want := of(each(func(c int) int { return c/64%(blocks-1) + 1 }))
	agree(t, "the last block as the first one", got, want)
	if n := got.Blocks(); n != blocks-1 {
		t.Errorf("Blocks = %d", n)
	}
}

func TestWithWrong(t *testing.T) { // 4.1, 4.3
	l := []trie.Pair{{0, 1}, {5, 2}, {last, 3}}
	old := built(t, l)
	for _, c := range outside() {
		for _, v := range append(wide(), 0, 1, least, most) {
			if got, e := old.With(c, v); got != nil || e != api.ErrArg {
				t.Errorf("With(%d, %d) = %t, %d", c, v, got != nil, e)
			}
		}
	}
	for _, v := range wide() {
		for _, c := range []int{0, 5, 6, last} {
			if got, e := old.With(c, v); got != nil || e != api.ErrArg {
				t.Errorf("With(%d, %d) = %t, %d", c, v, got != nil, e)
			}
		}
	}
	agree(t, "behind wrong ones", old, of(l))
}

// A chain goes over few signs, so that they are set, set again, and set back to 0.
func TestWithAgainAndAgain(t *testing.T) { // 4.1, 4.2, 4.3
	signs := []int{0, 1, 63, 64, 65, 127, 128, 0x4E00, 0xD800, 0x10FFC0, 0x110000, last - 63, last - 62, last - 1, last}
	values := []int{0, 1, 0, 2, least, 0, most}
	got, want := built(t, nil), of(nil)
	steps := []*trie.Trie{got}
	texts := [][]trie.Pair{nil}
	for i := range 300 {
		c, v := signs[i*i*7%101%len(signs)], values[i*11%13%len(values)]
		got, _ = got.With(c, v)
		want[c] = v
		if i%10 == 0 {
			agree(t, "step", got, want)
		}
		if again := built(t, got.Pairs()); got.Blocks() != again.Blocks() || !slices.Equal(got.Pairs(), again.Pairs()) {
			t.Fatalf("step %d: built again it has %d blocks, not %d", i, again.Blocks(), got.Blocks())
		}
		steps, texts = append(steps, got), append(texts, want.pairs())
	}
	for i, l := range texts {
		if !slices.Equal(steps[i].Pairs(), l) {
			t.Fatalf("the trie of step %d was changed", i)
		}
	}
}

func TestWithHangsOnNoWay(t *testing.T) { // 4.1
	l := []trie.Pair{{5, 1}, {69, 1}, {133, 2}, {0x1000, -1}, {0x1001, least}, {last, most}}
	got := built(t, []trie.Pair{{7, 7}, {69, 9}, {0x9000, 1}})
	for _, p := range append([]trie.Pair{{7, 0}, {0x9000, 0}}, l...) {
		got, _ = got.With(p.C, p.V)
	}
	agree(t, "by With", got, of(l))
	agree(t, "by Build", built(t, l), of(l))
}

func TestNothingIsShared(t *testing.T) { // 4.1, 4.3
	room := []trie.Pair{{70, 3}, {5, 1}, {6, 0}, {69, 1}, {1, 1}, {2, 2}}
	handed := room[:4]
	got := built(t, handed)
	if !slices.Equal(room, []trie.Pair{{70, 3}, {5, 1}, {6, 0}, {69, 1}, {1, 1}, {2, 2}}) {
		t.Errorf("Build changed what it was handed: %v", room)
	}
	want := of(handed)
	for i := range room {
		room[i] = trie.Pair{C: i, V: 99}
	}
	agree(t, "behind a change of what was handed in", got, want)
	l := got.Pairs()
	all := l[:cap(l)]
	for i := range all {
		all[i] = trie.Pair{C: 1, V: -1}
	}
	agree(t, "behind a change of what was answered", got, want)
	first, second := got.Pairs(), got.Pairs()
	first[0].V = 1234
	if second[0].V == 1234 {
		t.Error("two answers of Pairs share memory")
	}
}

func TestNoPanic(t *testing.T) { // 4.3
	defer func() {
		if p := recover(); p != nil {
			t.Fatal(p)
		}
	}()
	all := append(append(outside(), wide()...), 0, 1, 63, 64, 65, last-64, last-63, last)
	for _, c := range all {
		for _, v := range all {
			got, e := trie.Build([]trie.Pair{{c, v}})
			if (got != nil) != (e == api.OK) {
				t.Fatalf("Build(%d, %d): %d", c, v, e)
			}
			if e != api.OK {
				continue
			}
			for _, d := range all {
				got.Get(d)
				if next, e := got.With(d, v); (next != nil) != (e == api.OK) {
					t.Fatalf("With(%d, %d): %d", d, v, e)
				}
			}
			got.Pairs()
			got.Blocks()
		}
	}
}
