package coll_test

import (
	"bytes"
	"math"
	"math/rand/v2"
	"slices"
	"strconv"
	"strings"
	"testing"

	"umlaut/api"
	"umlaut/coll"
	"umlaut/elem"
	"umlaut/table"
	"umlaut/tailor"
	"umlaut/utext"
)

// root is a collation by Root.
func root(level int) coll.Coll {
	return coll.Coll{Kind: api.CTable, Level: level, Table: table.Root()}
}

// shifted and back are c with Shift, with Back.
func shifted(c coll.Coll) coll.Coll { c.Shift = true; return c }
func back(c coll.Coll) coll.Coll    { c.Back = true; return c }

// turned is Root, turned by the rules of a text.
func turned(t *testing.T, rules string) *table.Table {
	t.Helper()
	x, at, e := tailor.Read(rules)
	if e != api.OK {
		t.Fatalf("%q: %d at %d", rules, e, at)
	}
	return x
}

// with is Root with more entries: a sequence and its elements each.
func with(t *testing.T, l ...string) *table.Table {
	t.Helper()
	x := table.Root()
	for i := 0; i < len(l); i += 2 {
		var elems []elem.Elem
		for _, s := range strings.Fields(l[i+1]) {
			e, err := elem.Parse(s)
			if err != api.OK {
				t.Fatalf("%q is no element", s)
			}
			elems = append(elems, e)
		}
		next, e := x.With(utext.Signs(l[i]), elems)
		if e != api.OK {
			t.Fatalf("With(%q, %s): %d", l[i], l[i+1], e)
		}
		x = next
	}
	return x
}

// odd is Root with elements that have a weight 0 of each level and of several, variable ones and others, some of which Check refuses.
func odd(t *testing.T) *table.Table {
	return with(t,
		"!", "[0000.00.05]", "#", "[0000.00.00]", "$", "[0000.21.00]", "%", "[0100.00.00]", "(", "[0100.00.02]", ")", "[0100.1f.00]",
		"*", "[*0000.33.03]", "+", "[*0000.00.00] [0100.20.02] [*0000.00.04]", ":", "[*ffff.ff.7f]", ";", "[ffff.ff.7f]", "?", "[0000.10.02]",
		"ch", "[0111.20.02] [*0018.21.03]", "cha", "")
}

// told is a list as a text, in hexadecimal digits.
func told(l []int) string {
	var texts []string
	for _, w := range l {
		texts = append(texts, strconv.FormatInt(int64(w), 16))
	}
	return strings.Join(texts, " ")
}

// plainWeights is what the chapter says of Weights, of the digits in which elements are told.
func plainWeights(c coll.Coll, b string, level int) []int {
	var l []int
	if c.Kind != 3 || c.Table == nil || c.Level < 1 || c.Level > 3 || level < 1 || level > 3 {
		return l
	}
	for _, e := range c.Table.Elements(b) {
		text := e.Text()
		if strings.Contains(text, "*") && c.Shift {
			continue
		}
		w, err := strconv.ParseInt(strings.Split(strings.Trim(text, "[*]"), ".")[level-1], 16, 32)
		switch {
		case err != nil:
			panic(err)
		case w == 0:
		case level == 2 && c.Back:
			l = append([]int{int(w)}, l...)
		default:
			l = append(l, int(w))
		}
	}
	return l
}

// plainCmp is what the chapter says of Cmp: the first unlike number tells, and where a list is at its end stands less than any weight.
func plainCmp(c coll.Coll, a, b string) int {
	if c.Kind == 3 && c.Table != nil && c.Level >= 1 && c.Level <= 3 {
		for level := 1; level <= c.Level; level++ {
			if n := plainLists(plainWeights(c, a, level), plainWeights(c, b, level)); n != 0 {
				return n
			}
		}
		return 0
	}
	if c.Kind == 2 {
		a, b = utext.FoldText(a), utext.FoldText(b)
	}
	return bytes.Compare([]byte(a), []byte(b))
}

func plainLists(x, y []int) int {
	for i := 0; i < len(x) || i < len(y); i++ {
		v, w := -1, -1
		if i < len(x) {
			v = x[i]
		}
		if i < len(y) {
			w = y[i]
		}
		if v != w {
			if v < w {
				return -1
			}
			return 1
		}
	}
	return 0
}

// stands asks how two texts stand, either way round, and whether they are the same.
func stands(t *testing.T, c coll.Coll, a, b string, want int) {
	t.Helper()
	if g, h := c.Cmp(a, b), c.Cmp(b, a); g != want || h != -want {
		t.Errorf("kind %d, level %d, shift %t, back %t: Cmp(%q, %q) = %d, the other way round %d; want %d", c.Kind, c.Level, c.Shift, c.Back, a, b, g, h, want)
	}
	if g, h := c.Same(a, b), c.Same(b, a); g != (want == 0) || h != (want == 0) {
		t.Errorf("kind %d, level %d, shift %t, back %t: Same(%q, %q) = %t, %t; Cmp %d", c.Kind, c.Level, c.Shift, c.Back, a, b, g, h, want)
	}
}

func TestExamples(t *testing.T) { // 8.1
	stands(t, root(1), "e", "É", 0)
	stands(t, root(2), "e", "É", -1)
	stands(t, root(3), "a", "A", -1)
}

// noLevels are numbers that are no level.
var noLevels = []int{0, 4, -1, 5, 8, 16, 256, 1<<32 + 1, math.MinInt, math.MaxInt}

// noKinds are numbers that are no kind.
var noKinds = []int{0, 4, -1, -3, 5, 1<<32 + 3, math.MinInt, math.MaxInt}

// notOk are collations that are not Ok.
func notOk() []coll.Coll {
	x := table.Root()
	var l []coll.Coll
	for _, kind := range noKinds {
		l = append(l, coll.Coll{Kind: kind}, coll.Coll{Kind: kind, Level: 3, Table: x}, coll.Coll{Kind: kind, Level: 1, Shift: true, Back: true, Table: x})
	}
	for _, level := range noLevels {
		l = append(l, coll.Coll{Kind: api.CTable, Level: level, Table: x}, coll.Coll{Kind: api.CTable, Level: level, Shift: true, Back: true, Table: x}, coll.Coll{Kind: api.CTable, Level: level})
	}
	for level := 1; level <= 3; level++ {
		l = append(l, coll.Coll{Kind: api.CTable, Level: level}, coll.Coll{Kind: api.CTable, Level: level, Shift: true, Back: true})
	}
	return l
}

// byBytes are collations that go by bytes, folded or not, whatever else stands in them.
func byBytes(kind int) []coll.Coll {
	l := []coll.Coll{{Kind: kind}, {Kind: kind, Shift: true, Back: true}}
	for _, level := range append([]int{1, 2, 3}, noLevels...) {
		l = append(l, coll.Coll{Kind: kind, Level: level}, coll.Coll{Kind: kind, Level: level, Table: table.Root()}, coll.Coll{Kind: kind, Level: level, Shift: true, Back: true, Table: table.Root()})
	}
	return l
}

// byTables are collations by tables of all sorts, of each level, with Shift and Back and without.
func byTables(t *testing.T) []coll.Coll {
	t.Helper()
	tables := []*table.Table{
		table.Root(),
		odd(t),
		turned(t, "&n <ñ <<<Ñ &c <ch <<<Ch <<<CH &l <ll <<<Ll <<<LL"),
		turned(t, "&z <å <<<Å <ä <<<Ä <ö <<<Ö"),
		turned(t, "&ae <<ä <<<Ä &oe <<ö &ue <<ü &ss =ß"),
		turned(t, "&- <x <<_ &_ <<< 0 &a =- / ' &e = \u00ad & é << q &\u0301 << \u4e00 &ß < A"),
	}
	var l []coll.Coll
	for _, x := range tables {
		for level := 1; level <= 3; level++ {
			c := coll.Coll{Kind: api.CTable, Level: level, Table: x}
			l = append(l, c, shifted(c), back(c), back(shifted(c)))
		}
	}
	return l
}

func TestOk(t *testing.T) { // 8.1
	for _, l := range [][]coll.Coll{byBytes(api.CBinary), byBytes(api.CFold), byTables(t)} {
		for _, c := range l {
			if !c.Ok() {
				t.Errorf("kind %d, level %d, table %t is not Ok", c.Kind, c.Level, c.Table != nil)
			}
		}
	}
	for _, c := range notOk() {
		if c.Ok() {
			t.Errorf("kind %d, level %d, table %t is Ok", c.Kind, c.Level, c.Table != nil)
		}
	}
	if (coll.Coll{}).Ok() {
		t.Error("no collation is Ok")
	}
}

// weighs asks that a text has these weights of the levels, whatever Level the collation has; of other levels it has none.
func weighs(t *testing.T, c coll.Coll, b string, want ...string) {
	t.Helper()
	for c.Level = 1; c.Level <= 3; c.Level++ {
		for level := 1; level <= 3; level++ {
			if g := told(c.Weights(b, level)); g != want[level-1] {
				t.Errorf("by Level %d, shift %t, back %t: Weights(%q, %d) = %s; want %s", c.Level, c.Shift, c.Back, b, level, g, want[level-1])
			}
		}
		for _, level := range noLevels {
			if g := c.Weights(b, level); len(g) != 0 {
				t.Errorf("Weights(%q, %d) = %s", b, level, told(g))
			}
		}
	}
}

func TestWeights(t *testing.T) { // 8.1
	c := root(3)
	weighs(t, c, "ab", "100 108", "20 20", "2 2")
	weighs(t, c, "aBc", "100 108 110", "20 20 20", "2 8 2")
	weighs(t, c, "é", "120", "20 24", "2 2")
	weighs(t, c, "É", "120", "20 24", "8 2")
	weighs(t, c, "e\u0301\u0327", "120", "20 24 30", "2 2 2")
	weighs(t, c, "ßÆ", "190 190 100 120", "20 20 20 20", "4 4 a a")
	// Texts without elements, ...
	weighs(t, c, "", "", "", "")
	weighs(t, c, "\u00ad", "", "", "")
	weighs(t, c, "\u00ad\u00ad", "", "", "")
	weighs(t, c, "\u00ada\u00adb\u00ad", "100 108", "20 20", "2 2")
	// ... bytes that begin no code point, and signs without an entry.
	weighs(t, c, "\xff", "fb22 80ff", "20 20", "2 2")
	weighs(t, c, "\x80a\xc3", "fb22 8080 100 fb22 80c3", "20 20 20 20 20", "2 2 2 2 2")
	weighs(t, c, "\xed\xa0\x80", "fb22 80ed fb22 80a0 fb22 8080", "20 20 20 20 20 20", "2 2 2 2 2 2")
	weighs(t, c, "\x00", "fb00 8000", "20 20", "2 2")
	weighs(t, c, "\u4e00\U0001f600", "fb00 ce00 fb03 f600", "20 20 20 20", "2 2 2 2")
	// The longest entries count.
	c.Table = turned(t, "&c <ch")
	weighs(t, c, "cchc", "110 111 110", "20 20 20", "2 2 2")
}

func TestWeightsOfNought(t *testing.T) { // 8.1
	c := root(3)
	weighs(t, c, "\u0301", "", "24", "2")
	weighs(t, c, "\u0301a\u0308", "100", "24 20 2b", "2 2 2")
	c.Table = odd(t)
	weighs(t, c, "!", "", "", "5")
	weighs(t, c, "#", "", "", "")
	weighs(t, c, "$", "", "21", "")
	weighs(t, c, "%", "100", "", "")
	weighs(t, c, "(", "100", "", "2")
	weighs(t, c, ")", "100", "1f", "")
	weighs(t, c, "a!b#c$%)(", "100 108 110 100 100 100", "20 20 20 21 1f", "2 5 2 2 2")
	weighs(t, c, "achac", "100 110", "20 20", "2 2")
}

func TestVariableWeights(t *testing.T) { // 8.1
	c := root(3)
	weighs(t, c, " _-,.'", "10 14 18 1c 20 24", "20 20 20 20 20 20", "2 2 2 2 2 2")
	weighs(t, c, "-a-B-", "18 100 18 108 18", "20 20 20 20 20", "2 2 2 8 2")
	c = shifted(c)
	weighs(t, c, " _-,.'", "", "", "")
	weighs(t, c, "-a-B-", "100 108", "20 20", "2 8")
	weighs(t, c, "é", "120", "20 24", "2 2")
	weighs(t, c, "-\u0301-", "", "24", "2")
	weighs(t, c, "a\xff-", "100 fb22 80ff", "20 20 20", "2 2 2")
	// At the front, in the midst, at the end, with weights of their own on each level.
	c.Table = odd(t)
	for _, x := range []struct{ b, first, second, third, shiftFirst, shiftSecond, shiftThird string }{
		{":", "ffff", "ff", "7f", "", "", ""},
		{";", "ffff", "ff", "7f", "ffff", "ff", "7f"},
		{":é", "ffff 120", "ff 20 24", "7f 2 2", "120", "20 24", "2 2"},
		{"é:B", "120 ffff 108", "20 24 ff 20", "2 2 7f 8", "120 108", "20 24 20", "2 2 8"},
		{"éB:", "120 108 ffff", "20 24 20 ff", "2 2 8 7f", "120 108", "20 24 20", "2 2 8"},
		{":a::b:", "ffff 100 ffff ffff 108 ffff", "ff 20 ff ff 20 ff", "7f 2 7f 7f 2 7f", "100 108", "20 20", "2 2"},
		{"*a", "100", "33 20", "3 2", "100", "20", "2"},
		{"+", "100", "20", "2 4", "100", "20", "2"},
		{"achz", "100 111 18 1c8", "20 20 21 20", "2 2 3 2", "100 111 1c8", "20 20 20", "2 2 2"},
		{"chach", "111 18", "20 21", "2 3", "111", "20", "2"}, // cha has none
	} {
		c.Shift = false
		weighs(t, c, x.b, x.first, x.second, x.third)
		c.Shift = true
		weighs(t, c, x.b, x.shiftFirst, x.shiftSecond, x.shiftThird)
	}
}

func TestBackWeights(t *testing.T) { // 8.1
	c := root(3)
	weighs(t, c, "éÀ", "120 100", "20 24 20 25", "2 2 8 2")
	c = back(c)
	weighs(t, c, "éÀ", "120 100", "25 20 24 20", "2 2 8 2")
	weighs(t, c, "aBC", "100 108 110", "20 20 20", "2 8 8")
	weighs(t, c, "\u0301a", "100", "20 24", "2 2")
	weighs(t, c, "a", "100", "20", "2")
	weighs(t, c, "", "", "", "")
	weighs(t, c, "\u00ad", "", "", "")
	c.Table = odd(t)
	weighs(t, c, ":éÀ", "ffff 120 100", "25 20 24 20 ff", "7f 2 2 8 2")
	weighs(t, c, "é:À", "120 ffff 100", "25 20 ff 24 20", "2 2 7f 8 2")
	weighs(t, c, "$)a!?", "100 100", "10 20 1f 21", "2 5 2")
	c = shifted(c)
	weighs(t, c, ":éÀ", "120 100", "25 20 24 20", "2 2 8 2")
	weighs(t, c, "é:À*", "120 100", "25 20 24 20", "2 2 8 2")
	weighs(t, c, ":*", "", "", "")
}

func TestWeightsOfOtherKinds(t *testing.T) { // 8.1
	for _, l := range [][]coll.Coll{byBytes(api.CBinary), byBytes(api.CFold), notOk()} {
		for _, c := range l {
			for _, level := range append([]int{1, 2, 3}, noLevels...) {
				for _, b := range []string{"", "a", "éÀ-", "\xff"} {
					if g := c.Weights(b, level); len(g) != 0 {
						t.Errorf("kind %d, level %d, table %t: Weights(%q, %d) = %s", c.Kind, c.Level, c.Table != nil, b, level, told(g))
					}
				}
			}
		}
	}
}

func TestCmpByLevels(t *testing.T) { // 8.1
	for _, x := range []struct {
		a, b string
		want [3]int
	}{
		{"", "", [3]int{0, 0, 0}},
		{"", "a", [3]int{-1, -1, -1}},
		{"", "\u00ad", [3]int{0, 0, 0}},
		{"a\u00ad", "a", [3]int{0, 0, 0}},
		{"", "\u0301", [3]int{0, -1, -1}},
		{"a", "a", [3]int{0, 0, 0}},
		{"\xff", "\xff", [3]int{0, 0, 0}},
		{"é", "e\u0301", [3]int{0, 0, 0}},
		// Unlike on level 1, 2, 3 alone.
		{"a", "b", [3]int{-1, -1, -1}},
		{"cab", "cac", [3]int{-1, -1, -1}},
		{"Z", "\u4e00", [3]int{-1, -1, -1}},
		{"9", "a", [3]int{-1, -1, -1}},
		{"-", "0", [3]int{-1, -1, -1}},
		{"\u4e00", "\xff", [3]int{-1, -1, -1}},
		{"\x80", "\xff", [3]int{-1, -1, -1}},
		{"é", "è", [3]int{0, -1, -1}},
		{"aéb", "aèb", [3]int{0, -1, -1}},
		{"a", "A", [3]int{0, 0, -1}},
		{"ba", "bA", [3]int{0, 0, -1}},
		{"aZ", "AZ", [3]int{0, 0, -1}},
		{"ss", "ß", [3]int{0, 0, -1}},
		{"æ", "Ae", [3]int{0, 0, -1}},
		{"æ", "Æ", [3]int{0, 0, -1}},
		// The lower level counts, wherever its weight stands.
		{"éa", "eb", [3]int{-1, -1, -1}},
		{"Aéa", "aeb", [3]int{-1, -1, -1}},
		{"E", "é", [3]int{0, -1, -1}},
		{"EE", "eé", [3]int{0, -1, -1}},
		{"AAa", "aab", [3]int{-1, -1, -1}},
		// One's weights are the beginning of the other one's.
		{"a", "ab", [3]int{-1, -1, -1}},
		{"b", "ba", [3]int{-1, -1, -1}},
		{"a", "a-", [3]int{-1, -1, -1}},
		{"B", "ba", [3]int{-1, -1, -1}},
		{"a", "á", [3]int{0, -1, -1}},
		{"A", "á", [3]int{0, -1, -1}},
		{"e\u0301", "e\u0301\u0327", [3]int{0, -1, -1}},
		{"a", "a\u0301b", [3]int{-1, -1, -1}},
	} {
		for level := 1; level <= 3; level++ {
			stands(t, root(level), x.a, x.b, x.want[level-1])
		}
	}
	// A weight of level 3 alone.
	for i, want := range []int{0, 0, -1} {
		stands(t, coll.Coll{Kind: api.CTable, Level: i + 1, Table: odd(t)}, "a", "a!", want)
	}
}

func TestCmpShiftAndBack(t *testing.T) { // 8.1
	for level := 1; level <= 3; level++ {
		c := root(level)
		stands(t, c, "a-b", "ab", -1)
		stands(t, c, "-", "", 1)
		stands(t, c, "-b", "a", -1)
		stands(t, c, "a-", "a", 1)
		s := shifted(c)
		stands(t, s, "a-b", "ab", 0)
		stands(t, s, "-", "", 0)
		stands(t, s, " _-,.'", "\u00ad", 0)
		stands(t, s, "-b", "a", 1)
		stands(t, s, "a-", "a", 0)
		stands(t, s, "-a--b-", "'ab", 0)
		stands(t, s, "a-c", "ab", 1)
	}
	for level := 2; level <= 3; level++ {
		c := root(level)
		b, s := back(c), back(shifted(c))
		// The last mark counts first.
		stands(t, c, "cote", "coté", -1)
		stands(t, c, "coté", "côte", -1)
		stands(t, c, "côte", "côté", -1)
		stands(t, b, "cote", "côte", -1)
		stands(t, b, "côte", "coté", -1)
		stands(t, b, "coté", "côté", -1)
		stands(t, s, "c-ôte", "coté", -1)
		stands(t, s, "côte-", "-côté", -1)
		// A list that is another one's beginning is so from the other end.
		c.Table = odd(t)
		b.Table = c.Table
		stands(t, c, "a", "a?", -1)
		stands(t, b, "a", "a?", 1)
		stands(t, c, "?a", "a", -1)
		stands(t, b, "?a", "a", 1)
	}
	stands(t, back(root(1)), "côte", "coté", 0)
	stands(t, back(root(3)), "Ab", "aB", 1)
	stands(t, back(root(1)), "ab", "ba", -1)
}

func TestTurnedTables(t *testing.T) { // 8.1, W6
	for _, x := range []struct{ rules, order string }{
		{"&c <ch <<<Ch <<<CH", "c cz cZ ch Ch CH cha d"},
		{"&n <ñ <<<Ñ", "n nz ñ Ñ ñn o"},
		{"&z <å <<<Å <ä <<<Ä <ö <<<Ö", "a z zz å Å åå ä Ä ö Ö"},
		{"&ae <<ä <<<Ä", "ad ae ä Ä af"},
	} {
		c := root(3)
		c.Table = turned(t, x.rules)
		l := strings.Fields(x.order)
		for i, a := range l {
			for j, b := range l {
				stands(t, c, a, b, min(max(i-j, -1), 1))
			}
		}
	}
}

// short holds all texts of up to two bytes that stand at the edges of UTF-8 and of what is folded.
func short() []string {
	edge := []byte("\x00 '-09@AMZ[_`amz{\x7f\x80\x9f\xa4\xbf\xc0\xc3\xc4\xe0\xff")
	l := []string{""}
	for _, x := range edge {
		l = append(l, string([]byte{x}))
		for _, y := range edge {
			l = append(l, string([]byte{x, y}))
		}
	}
	return append(l, "é", "É", "éa", "ÉA", "×", "÷", "Σ", "σ", "Я", "я", "Ѐ", "ѐ", "\u4e00", "\u00ad", "e\u0301", "\xed\xa0\x80", "\U0010ffff", "\xf4\x90\x80\x80", "abcabcabc", "abcABCabd")
}

func TestCmpByBytes(t *testing.T) { // 8.1
	c := coll.Coll{Kind: api.CBinary}
	stands(t, c, "", "", 0)
	stands(t, c, "", "\x00", -1)
	stands(t, c, "a", "ab", -1)
	stands(t, c, "a", "a\x00", -1)
	stands(t, c, "Z", "a", -1)
	stands(t, c, "b", "ab", 1)
	stands(t, c, "\x7f", "\x80", -1)
	stands(t, c, "z", "é", -1)
	stands(t, c, "\xc3", "é", -1)
	stands(t, c, "\uffff", "\U00010000", -1)
	stands(t, c, "\U0010ffff", "\xff", -1) // by signs too
	stands(t, c, "\x80", "é", -1)          // not by signs: a byte alone is the sign 0x110080
	stands(t, c, "é", "e\u0301", 1)
	stands(t, c, "\u00ad", "", 1)
	for _, a := range short() {
		for _, b := range short() {
			want := bytes.Compare([]byte(a), []byte(b))
			if g := c.Cmp(a, b); g != want || c.Same(a, b) != (want == 0) {
				t.Fatalf("Cmp(%q, %q) = %d", a, b, g)
			}
		}
	}
}

func TestCmpFolded(t *testing.T) { // 8.1
	c := coll.Coll{Kind: api.CFold}
	stands(t, c, "", "", 0)
	stands(t, c, "", "\x00", -1)
	stands(t, c, "a", "A", 0)
	stands(t, c, "STRASSE", "strasse", 0)
	stands(t, c, "ÄÖÜ", "äöü", 0)
	stands(t, c, "ΣЯЀ", "σяѐ", 0)
	stands(t, c, "×", "÷", -1)
	stands(t, c, "ss", "ß", -1)
	stands(t, c, "e", "é", -1)
	stands(t, c, "é", "e\u0301", 1)
	stands(t, c, "a", "AB", -1)
	stands(t, c, "A", "ab", -1)
	stands(t, c, "B", "ab", 1)
	stands(t, c, "a", "Z", -1)
	stands(t, c, "Z", "[", 1) // as z; the byte Z stands ahead of [
	stands(t, c, "_", "A", -1)
	stands(t, c, "\xc3", "É", -1)
	stands(t, c, "\xc0", "\xe0", -1) // bytes alone are not folded
	stands(t, c, "\u00ad", "", 1)
	for _, a := range short() {
		for _, b := range short() {
			want := bytes.Compare([]byte(utext.FoldText(a)), []byte(utext.FoldText(b)))
			if g := c.Cmp(a, b); g != want || c.Same(a, b) != (want == 0) {
				t.Fatalf("Cmp(%q, %q) = %d", a, b, g)
			}
		}
	}
}

// many holds texts of all sorts.
var many = []string{
	"", "\u00ad", "a", "A", "á", "Á", "a\u0301", "\u0301", "\u0301a", "à", "ab", "aB", "Ab", "áb", "a-b", "a-B", "-ab", "ab-", "-", "--", "_", "- ", "b", "c", "ch", "cH", "Ch", "CH", "cha", "chac", "cz", "d", "ae", "æ", "Æ", "ä",
	"e", "é", "É", "cote", "coté", "côte", "côté", "n", "ñ", "Ñ", "o", "ss", "ß", "SS", "x", "z", "Z", "å", "0", "9", "0a", "!", "#", "$", "%", "a!", "a#", "a$", ":a", "a:", "*a", "+", ";", "?a", "a?", "q", "\x00", "\xff", "\x80", "\xc3", "\u4e00", "\u4e01", "\U0001f600", "é\xff",
}

// all are collations of each kind, and some that are none.
func all(t *testing.T) []coll.Coll {
	t.Helper()
	return slices.Concat(byBytes(api.CBinary), byBytes(api.CFold), byTables(t), notOk())
}

func TestAgainstThePlainReading(t *testing.T) { // 8.1
	for _, c := range all(t) {
		for _, a := range many {
			for level := 0; level <= 4; level++ {
				if g, w := c.Weights(a, level), plainWeights(c, a, level); !slices.Equal(g, w) {
					t.Fatalf("kind %d, level %d, shift %t, back %t: Weights(%q, %d) = %s; want %s", c.Kind, c.Level, c.Shift, c.Back, a, level, told(g), told(w))
				}
			}
			for _, b := range many {
				if g, w := c.Cmp(a, b), plainCmp(c, a, b); g != w || c.Same(a, b) != (w == 0) {
					t.Fatalf("kind %d, level %d, shift %t, back %t: Cmp(%q, %q) = %d; want %d", c.Kind, c.Level, c.Shift, c.Back, a, b, g, w)
				}
			}
		}
	}
}

// drawn is texts of up to most signs.
func drawn(r *rand.Rand, n, most int) []string {
	signs := utext.Signs("aAbcChHeéÉèñnßsæÆ-_ '09!#$%()*+:;?\u0301\u0308\u00ad\u4e00\U0001f600\x80\xff")
	var l []string
	for range n {
		var b strings.Builder
		for range r.IntN(most + 1) {
			c, _ := utext.Bytes([]int{signs[r.IntN(len(signs))]})
			b.WriteString(c)
		}
		l = append(l, b.String())
	}
	return l
}

func TestDrawnAgainstThePlainReading(t *testing.T) { // 8.1
	r := rand.New(rand.NewPCG(8, 1))
	for _, c := range byTables(t) {
		likes := 0
		for range 300 {
			// Of few signs two texts may well be alike on some level.
			l := append(drawn(r, 1, 12), drawn(r, 1, 3)...)
			a, b := l[0], l[0]+l[1]
			if r.IntN(2) == 0 {
				a, b = l[1], drawn(r, 1, 3)[0]
			}
			w := plainCmp(c, a, b)
			if g, h := c.Cmp(a, b), c.Cmp(b, a); g != w || h != -w {
				t.Fatalf("level %d, shift %t, back %t: Cmp(%q, %q) = %d, %d; want %d", c.Level, c.Shift, c.Back, a, b, g, h, w)
			}
			if w == 0 {
				likes++
			}
		}
		if likes < 5 {
			t.Errorf("only %d pairs are the same", likes)
		}
	}
}

// Of any three texts: if the first one does not stand behind the second one, nor that behind the third one, nor does the first one behind the third one; nor is one there that is the same as one alone.
func TestOrder(t *testing.T) { // 8.2, W5
	r := rand.New(rand.NewPCG(8, 2))
	for _, c := range slices.Concat([]coll.Coll{{Kind: api.CBinary}, {Kind: api.CFold}, {Kind: 4}, {Kind: api.CTable, Level: 2}}, byTables(t)) {
		l := append(drawn(r, 20, 5), many...)
		stand := make([][]int, len(l))
		for i, a := range l {
			for _, b := range l {
				stand[i] = append(stand[i], c.Cmp(a, b))
			}
		}
		for i := range l {
			if stand[i][i] != 0 {
				t.Fatalf("%q stands at %d to itself", l[i], stand[i][i])
			}
			for j := range l {
				if stand[i][j] != -stand[j][i] {
					t.Fatalf("%q, %q: %d, the other way round %d", l[i], l[j], stand[i][j], stand[j][i])
				}
				for k := range l {
					if stand[i][j] <= 0 && stand[j][k] <= 0 && stand[i][k] != min(stand[i][j], stand[j][k]) {
						t.Fatalf("kind %d, level %d, shift %t, back %t: %q, %q, %q: %d, %d, %d", c.Kind, c.Level, c.Shift, c.Back, l[i], l[j], l[k], stand[i][j], stand[j][k], stand[i][k])
					}
				}
			}
		}
	}
}

// sorts asks that Sort answers these texts, and changes nothing.
func sorts(t *testing.T, c coll.Coll, l, want []string) {
	t.Helper()
	before := slices.Clone(l)
	if g := c.Sort(l); !slices.Equal(g, want) {
		t.Errorf("kind %d, level %d, shift %t, back %t: Sort(%q) = %q; want %q", c.Kind, c.Level, c.Shift, c.Back, l, g, want)
	}
	if !slices.Equal(l, before) {
		t.Errorf("what was handed in is changed: %q, before %q", l, before)
	}
}

func TestSort(t *testing.T) { // 8.1
	for _, c := range all(t) {
		sorts(t, c, nil, nil)
		sorts(t, c, []string{}, nil)
		for _, b := range []string{"", "b", "\u00ad", "\xff"} {
			sorts(t, c, []string{b}, []string{b})
			sorts(t, c, []string{b, b, b}, []string{b, b, b})
		}
		sorts(t, c, []string{"c", "b", "a"}, []string{"a", "b", "c"})
	}
	l := []string{"b", "É", "a", "e", "B", "A", "é", "E", "", "-", "\xff"}
	sorts(t, coll.Coll{Kind: api.CBinary}, l, []string{"", "-", "A", "B", "E", "a", "b", "e", "É", "é", "\xff"})
	sorts(t, coll.Coll{Kind: api.CFold}, l, []string{"", "-", "a", "A", "b", "B", "e", "E", "É", "é", "\xff"})
	sorts(t, root(1), l, []string{"", "-", "a", "A", "b", "B", "É", "e", "é", "E", "\xff"})
	sorts(t, root(2), l, []string{"", "-", "a", "A", "b", "B", "e", "E", "É", "é", "\xff"})
	sorts(t, root(3), l, []string{"", "-", "a", "A", "b", "B", "e", "E", "é", "É", "\xff"})
	sorts(t, shifted(root(3)), []string{"-", "b-", "b", "", "a-", "-a", "--"}, []string{"-", "", "--", "a-", "-a", "b-", "b"})
	sorts(t, root(3), []string{"côté", "coté", "côte", "cote"}, []string{"cote", "coté", "côte", "côté"})
	sorts(t, back(root(3)), []string{"côté", "coté", "côte", "cote"}, []string{"cote", "côte", "coté", "côté"})
	sorts(t, coll.Coll{Kind: api.CTable, Table: table.Root()}, []string{"b", "B", "a"}, []string{"B", "a", "b"})
}

// plainSort puts each text behind the last one that does not stand behind it.
func plainSort(c coll.Coll, l []string) []string {
	var sorted []string
	for _, b := range l {
		at := len(sorted)
		for at > 0 && plainCmp(c, sorted[at-1], b) > 0 {
			at--
		}
		sorted = slices.Insert(sorted, at, b)
	}
	return sorted
}

func TestSortOfMany(t *testing.T) { // 8.1
	r := rand.New(rand.NewPCG(8, 3))
	for _, c := range slices.Concat([]coll.Coll{{Kind: api.CBinary}, {Kind: api.CFold}, {Kind: -1}, {Kind: api.CTable, Level: 1}}, byTables(t)) {
		l := append(drawn(r, 40, 2), many...)
		r.Shuffle(len(l), func(i, j int) { l[i], l[j] = l[j], l[i] })
		want := plainSort(c, l)
		sorts(t, c, l, want)
		sorts(t, c, want, want)
		slices.Reverse(l)
		sorts(t, c, l, plainSort(c, l))
	}
}

// Texts that are the same tell by their bytes where they stood.
func TestSortKeepsTies(t *testing.T) { // 8.1
	for _, x := range []struct {
		c      coll.Coll
		groups [][]string
	}{
		{coll.Coll{Kind: api.CFold}, [][]string{{"abc", "Abc", "aBc", "ABC"}, {"é", "É"}}},
		{root(1), [][]string{{"e", "E", "é", "É", "ë", "e\u00ad", "e\u0301"}, {"ss", "ß", "Ss"}}},
		{root(2), [][]string{{"é", "É", "e\u0301", "\u00adE\u0301"}, {"ss", "ß", "Ss"}}},
		{root(3), [][]string{{"é", "e\u0301", "\u00adé", "é\u00ad"}, {"z", "z\u00ad", "\u00adz"}}},
		{shifted(root(3)), [][]string{{"ab", "a-b", "-ab", "ab-", "a b"}, {"b", "b_", "_b"}}},
	} {
		r := rand.New(rand.NewPCG(8, 4))
		for _, n := range []int{2, 10, 100, 1000} {
			var l []string
			for range n {
				g := x.groups[r.IntN(len(x.groups))]
				l = append(l, g[r.IntN(len(g))])
			}
			var want []string
			for _, g := range x.groups {
				for _, b := range l {
					if slices.Contains(g, b) {
						want = append(want, b)
					}
				}
			}
			sorts(t, x.c, l, want)
		}
	}
}

func TestHandedInStays(t *testing.T) { // 8.1
	for _, c := range all(t) {
		room := []string{"b", "a", "É", "e", "spare", "room"}
		g := c.Sort(room[:4])
		if !slices.Equal(room, []string{"b", "a", "É", "e", "spare", "room"}) {
			t.Fatalf("what was handed in is changed: %q", room)
		}
		want := slices.Clone(g)
		for i := range room {
			room[i] = "z"
		}
		if !slices.Equal(g, want) {
			t.Fatalf("what was handed in is kept: %q, before %q", g, want)
		}
	}
}

// spoil writes over a list and its spare room.
func spoil[T any](l []T, v T) {
	l = l[:cap(l)]
	for i := range l {
		l[i] = v
	}
}

func TestAnswersAreNewMemory(t *testing.T) { // 8.1
	for _, c := range all(t) {
		for _, l := range [][]string{nil, {"a"}, {"a", "b", "c"}, {"b", "É", "e", "a", "-"}} {
			before := slices.Clone(l)
			first, second := c.Sort(l), c.Sort(l)
			spoil(first, "spoilt")
			if want := plainSort(c, before); !slices.Equal(l, before) || !slices.Equal(second, want) || !slices.Equal(c.Sort(l), want) {
				t.Fatalf("Sort(%q) shares memory: %q, %q", before, l, second)
			}
		}
		for level := 1; level <= 3; level++ {
			for _, b := range []string{"", "a", "éÀ-", "cha", "\xff"} {
				first, second := c.Weights(b, level), c.Weights(b, level)
				spoil(first, 99)
				if want := plainWeights(c, b, level); !slices.Equal(second, want) || !slices.Equal(c.Weights(b, level), want) || plainCmp(c, b, "éA") != c.Cmp(b, "éA") {
					t.Fatalf("Weights(%q, %d) share memory", b, level)
				}
			}
		}
	}
}

func TestNoPanic(t *testing.T) { // 8.3
	l := all(t)
	// Nothing is promised of tables that Root did not make, but that nothing panics.
	for level := -1; level <= 4; level++ {
		for _, kind := range append([]int{1, 2, 3}, noKinds...) {
			l = append(l, coll.Coll{Kind: kind, Level: level, Table: new(table.Table)}, coll.Coll{Kind: kind, Level: level, Shift: true, Back: true, Table: &table.Table{}})
		}
	}
	texts := append(short(), strings.Repeat("\xff", 3000), strings.Repeat("é-", 3000), "\xf0\x9f\x98", "\xe4\xb8")
	for _, c := range l {
		c.Ok()
		for _, b := range texts {
			for _, level := range append([]int{1, 2, 3}, noLevels...) {
				c.Weights(b, level)
			}
			if n := c.Cmp(b, "a"); n < -1 || n > 1 || c.Same(b, "a") != (n == 0) || !c.Same(b, b) {
				t.Fatalf("kind %d, level %d: Cmp(%.20q, a) = %d", c.Kind, c.Level, b, n)
			}
		}
		if g := c.Sort(texts); len(g) != len(texts) {
			t.Fatalf("kind %d, level %d: %d texts of %d", c.Kind, c.Level, len(g), len(texts))
		}
	}
}
