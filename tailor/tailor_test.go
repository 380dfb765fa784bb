package tailor_test

import (
	"fmt"
	"math"
	"math/rand/v2"
	"slices"
	"strings"
	"testing"

	"umlaut/api"
	"umlaut/elem"
	"umlaut/rules"
	"umlaut/table"
	"umlaut/tailor"
	"umlaut/utext"
)

// read is the elements of a text, parted by blanks.
func read(t *testing.T, text string) []elem.Elem {
	t.Helper()
	var l []elem.Elem
	for _, s := range strings.Fields(text) {
		e, err := elem.Parse(s)
		if err != api.OK {
			t.Fatalf("%q is no element", s)
		}
		l = append(l, e)
	}
	return l
}

// show tells elements by their texts.
func show(l []elem.Elem) string {
	var texts []string
	for _, e := range l {
		texts = append(texts, e.Text())
	}
	return strings.Join(texts, " ")
}

// told tells entries as a text, a line each.
func told(l []table.Entry) string {
	var b strings.Builder
	for _, x := range l {
		fmt.Fprintf(&b, "%x %s\n", x.Seq, show(x.L))
	}
	return b.String()
}

// parsed is the rules that a text tells.
func parsed(t *testing.T, s string) []rules.Rule {
	t.Helper()
	l, at, e := rules.Parse(s)
	if e != api.OK {
		t.Fatalf("%q: %d at %d", s, e, at)
	}
	return l
}

// like asks that the texts have these elements.
func like(t *testing.T, name string, got *table.Table, want map[string]string) {
	t.Helper()
	for b, l := range want {
		if g := show(got.Elements(b)); g != l {
			t.Errorf("%s: Elements(%q) = %s; want %s", name, b, g, l)
		}
	}
}

// turned applies the rules of a text, and asks that then the texts have these elements.
func turned(t *testing.T, old *table.Table, s string, want map[string]string) *table.Table {
	t.Helper()
	got, e := tailor.Apply(old, parsed(t, s))
	if got == nil || e != api.OK {
		t.Fatalf("Apply(%q) = %t, %d", s, got != nil, e)
	}
	like(t, s, got, want)
	return got
}

// refused asks that rules have that error.
func refused(t *testing.T, old *table.Table, l []rules.Rule, want api.Errno) {
	t.Helper()
	if got, e := tailor.Apply(old, l); got != nil || e != want {
		t.Errorf("Apply(%v) = %t, %d; want %d", l, got != nil, e, want)
	}
}

// fails asks that the rules of a text have that error.
func fails(t *testing.T, old *table.Table, s string, want api.Errno) {
	t.Helper()
	if got, e := tailor.Apply(old, parsed(t, s)); got != nil || e != want {
		t.Errorf("Apply(%q) = %t, %d; want %d", s, got != nil, e, want)
	}
}

// with is Root with more entries: a sequence and its elements each.
func with(t *testing.T, l ...string) *table.Table {
	t.Helper()
	x := table.Root()
	for i := 0; i < len(l); i += 2 {
		next, e := x.With(utext.Signs(l[i]), read(t, l[i+1]))
		if e != api.OK {
			t.Fatalf("With(%q, %s): %d", l[i], l[i+1], e)
		}
		x = next
	}
	return x
}

// full is Root with so many entries more that it has n.
func full(t *testing.T, n int) *table.Table {
	t.Helper()
	x := table.Root()
	for c := 0x4E00; len(x.Entries()) < n; c++ {
		next, e := x.With([]int{c}, read(t, "[0300.20.02]"))
		if e != api.OK {
			t.Fatal(e)
		}
		x = next
	}
	return x
}

func reset(seq ...int) rules.Rule {
	return rules.Rule{Rel: api.RReset, Seq: seq}
}

func rule(rel int, seq ...int) rules.Rule {
	return rules.Rule{Rel: rel, Seq: seq}
}

// weights is the list of a text at a level: the weights that are not 0.
func weights(x *table.Table, b string, level int, shift bool) []int {
	var l []int
	for _, e := range x.Elements(b) {
		if w := e.Weight(level); w != 0 && !(shift && e.Variable()) {
			l = append(l, w)
		}
	}
	return l
}

// cmp tells how two texts stand by the levels 1 to 3, variable elements left out or not.
func cmp(x *table.Table, a, b string, shift bool) int {
	for level := 1; level <= 3; level++ {
		if c := slices.Compare(weights(x, a, level, shift), weights(x, b, level, shift)); c != 0 {
			return c
		}
	}
	return 0
}

func TestExample(t *testing.T) { // 7.1
	x, at, e := tailor.Read("& c < ch")
	if x == nil || at != 0 || e != api.OK {
		t.Fatal(at, e)
	}
	for _, s := range []string{"cz ch d", "c cg cgz ci cz cZ Cz CZ ch cha chz d", "bz cc ccz cch chc chch d"} {
		for i, l := 1, strings.Fields(s); i < len(l); i++ {
			if c := cmp(x, l[i-1], l[i], false); c != -1 {
				t.Errorf("%s to %s: %d", l[i-1], l[i], c)
			}
		}
	}
	like(t, "the example", x, map[string]string{
		"b": "[0108.20.02]", "c": "[0110.20.02]", "C": "[0110.20.08]", "ch": "[0111.20.02]", "d": "[0119.20.02]", "z": "[01c9.20.02]",
		"Ch": "[0110.20.08] [0139.20.02]", "cch": "[0110.20.02] [0111.20.02]", "hc": "[0139.20.02] [0110.20.02]",
	})
	if n := len(x.Entries()); n != 133 {
		t.Errorf("%d entries", n)
	}
}

func TestNoRules(t *testing.T) { // 7.1, 7.2
	root := table.Root()
	want := told(root.Entries())
	for _, l := range [][]rules.Rule{nil, {}} {
		x, e := tailor.Apply(root, l)
		if x == nil || e != api.OK || told(x.Entries()) != want {
			t.Fatalf("Apply of none: %d", e)
		}
		if x == root {
			t.Error("the table is not a new one")
		}
	}
	for _, s := range []string{"", " ", "\n", " \n \n "} {
		x, at, e := tailor.Read(s)
		if x == nil || at != 0 || e != api.OK || told(x.Entries()) != want {
			t.Fatalf("Read(%q): %d, %d", s, at, e)
		}
	}
	// Check holds of a table that no rule has touched too.
	refused(t, with(t, "x", "[fb00.20.02]"), nil, api.ErrForm)
	refused(t, with(t, "x", "[0100.00.02]"), nil, api.ErrForm)
	refused(t, with(t, "\u4e00\u4e01", "[0100.20.02]"), nil, api.ErrForm)
}

func TestResetsAlone(t *testing.T) { // 7.1
	root := table.Root()
	for _, s := range []string{"&a", "&a &b &c", "&\u4e00", "&abc", "&\u00ad", "&ßßß & ßßx"} {
		if x := turned(t, root, s, nil); told(x.Entries()) != told(root.Entries()) {
			t.Errorf("%q changes the table", s)
		} else if x == root {
			t.Errorf("%q: the table is not a new one", s)
		}
	}
}

func TestFirstRule(t *testing.T) { // 7.1
	root := table.Root()
	for rel := api.RFirst; rel <= api.RSame; rel++ {
		refused(t, root, []rules.Rule{rule(rel, 'x')}, api.ErrArg)
		refused(t, root, []rules.Rule{rule(rel, 'x'), reset('a')}, api.ErrArg)
		refused(t, root, []rules.Rule{rule(rel, 'x'), reset('a'), rule(rel, 'x')}, api.ErrArg)
		refused(t, root, []rules.Rule{{Rel: rel, Seq: []int{'x'}, Exp: []int{'y'}}}, api.ErrArg)
		// So it is in a table of which everything else is wrong.
		refused(t, with(t, "q", "[faff.ff.7f] [fb00.00.00]"), []rules.Rule{rule(rel, 'x')}, api.ErrArg)
	}
}

// noRelations holds numbers that are no relations.
var noRelations = []int{0, -1, 6, 7, 256 + 1, 256 + 2, 1<<32 + 1, 1<<32 + 5, math.MinInt, math.MaxInt}

func TestNoRelation(t *testing.T) { // 7.1, 7.4
	root := table.Root()
	for _, rel := range noRelations {
		refused(t, root, []rules.Rule{rule(rel, 'x')}, api.ErrArg)
		refused(t, root, []rules.Rule{rule(rel, 'x'), reset('a')}, api.ErrArg)
		refused(t, root, []rules.Rule{reset('a'), rule(rel, 'x')}, api.ErrArg)
		refused(t, root, []rules.Rule{reset('a'), rule(api.RFirst, 'x'), rule(rel, 'x')}, api.ErrArg)
	}
}

func TestFirstBehindReset(t *testing.T) { // 7.1
	root := table.Root()
	turned(t, root, "&c <x", map[string]string{
		"x": "[0111.20.02]", "X": "[01b9.20.08]", "b": "[0108.20.02]", "B": "[0108.20.08]", "c": "[0110.20.02]", "C": "[0110.20.08]", "ç": "[0110.20.02] [0000.30.02]",
		"d": "[0119.20.02]", "D": "[0119.20.08]", "é": "[0121.20.02] [0000.24.02]", "ß": "[0191.20.04] [0191.20.04]", "Æ": "[0100.20.0a] [0121.20.0a]", "Z": "[01c9.20.08]",
		"9": "[00a4.20.02]", "-": "[*0018.20.02]", "\u0301": "[0000.24.02]", "\u00ad": "", "\u4e00": "[fb00.20.02] [ce00.20.02]", "\xff": "[fb22.20.02] [80ff.20.02]",
	})
	// Great letters have their small ones' first weights, and k its third weight anew.
	turned(t, root, "&C <x", map[string]string{"x": "[0111.20.02]", "c": "[0110.20.02]", "C": "[0110.20.08]", "D": "[0119.20.08]"})
	// A mark has no first weight: k is ahead of it, and it is gone.
	turned(t, root, "&é <x", map[string]string{"x": "[0121.20.02]", "e": "[0120.20.02]", "é": "[0120.20.02] [0000.24.02]", "f": "[0129.20.02]"})
	turned(t, root, "&e\u0301\u0302 <x", map[string]string{"x": "[0121.20.02]", "ê": "[0120.20.02] [0000.27.02]"})
	// What stands ahead of k stays, marks too; its weights are raised as the table's.
	turned(t, root, "&ñé <x", map[string]string{"x": "[0169.20.02] [0000.2d.02] [0121.20.02]", "ñ": "[0169.20.02] [0000.2d.02]", "e": "[0120.20.02]"})
	turned(t, root, "&eñ <x", map[string]string{"x": "[0120.20.02] [0169.20.02]", "e": "[0120.20.02]", "n": "[0168.20.02]", "o": "[0171.20.02]"})
	turned(t, root, "&\u0301e\u0301 <x", map[string]string{"x": "[0000.24.02] [0121.20.02]"})
	turned(t, root, "&\u0301\u0302e <x", map[string]string{"x": "[0000.24.02] [0000.27.02] [0121.20.02]"})
	// What is like k ahead of it is not above it.
	turned(t, root, "&bab <x", map[string]string{"x": "[0108.20.02] [0100.20.02] [0109.20.02]", "b": "[0108.20.02]", "c": "[0111.20.02]"})
	turned(t, root, "&ß <x", map[string]string{"x": "[0190.20.04] [0191.20.02]", "ß": "[0190.20.04] [0190.20.04]", "t": "[0199.20.02]"})
	// A variable k is none any more; others above stay variable.
	turned(t, root, "&- <x", map[string]string{"x": "[0019.20.02]", "-": "[*0018.20.02]", ",": "[*001d.20.02]", "'": "[*0025.20.02]", "_": "[*0014.20.02]", "0": "[0081.20.02]"})
	turned(t, root, "&-- <x", map[string]string{"x": "[*0018.20.02] [0019.20.02]"})
	turned(t, root, "&' <x", map[string]string{"x": "[0025.20.02]", "0": "[0081.20.02]", ".": "[*0020.20.02]"})
	// The last one of all, and a second one.
	turned(t, root, "&z <é", map[string]string{"é": "[01c9.20.02]", "z": "[01c8.20.02]", "e": "[0120.20.02]", "É": "[0120.20.08] [0000.24.02]"})
}

func TestSecondBehindReset(t *testing.T) { // 7.1
	root := table.Root()
	turned(t, root, "&a <<x", map[string]string{
		"x": "[0100.21.02]", "a": "[0100.20.02]", "A": "[0100.20.08]", "b": "[0108.20.02]", "X": "[01b8.20.08]",
		"\u0301": "[0000.25.02]", "\u0300": "[0000.26.02]", "\u0327": "[0000.31.02]", "é": "[0120.20.02] [0000.25.02]", "Ç": "[0110.20.08] [0000.31.02]",
		"-": "[*0018.20.02]", "\u00ad": "", "\u4e00": "[fb00.20.02] [ce00.20.02]",
	})
	// The mark is k; marks above it are raised, and what it has as its first weight stays none.
	turned(t, root, "&é <<x", map[string]string{"x": "[0120.20.02] [0000.25.02]", "é": "[0120.20.02] [0000.24.02]", "è": "[0120.20.02] [0000.26.02]", "ê": "[0120.20.02] [0000.28.02]", "a": "[0100.20.02]"})
	turned(t, root, "&\u0301 <<x", map[string]string{"x": "[0000.25.02]", "\u0301": "[0000.24.02]", "\u0300": "[0000.26.02]"})
	turned(t, root, "&\u0327 <<x", map[string]string{"x": "[0000.31.02]", "\u0327": "[0000.30.02]", "\u0304": "[0000.2f.02]"})
	// Ahead of k all stays, raised as the table's.
	turned(t, root, "&ñé <<x", map[string]string{"x": "[0168.20.02] [0000.2e.02] [0120.20.02] [0000.25.02]", "ñ": "[0168.20.02] [0000.2e.02]"})
	turned(t, root, "&\u0301a <<x", map[string]string{"x": "[0000.25.02] [0100.21.02]"})
	// k's third weight is 2; whether it is variable stays, and its first weight.
	turned(t, root, "&A <<x", map[string]string{"x": "[0100.21.02]", "A": "[0100.20.08]"})
	turned(t, root, "&ß <<x", map[string]string{"x": "[0190.20.04] [0190.21.02]", "ß": "[0190.20.04] [0190.20.04]"})
	turned(t, root, "&- <<x", map[string]string{"x": "[*0018.21.02]", "-": "[*0018.20.02]", ",": "[*001c.20.02]"})
	// What has no second weight is behind k, and gone.
	old := with(t, "q", "[0100.20.02] [0000.00.05]", "r", "[0000.30.09] [0000.00.05] [0000.00.00]")
	turned(t, old, "&q <<x", map[string]string{"x": "[0100.21.02]", "q": "[0100.20.02] [0000.00.05]", "r": "[0000.31.09] [0000.00.05] [0000.00.00]"})
	turned(t, old, "&r <<x", map[string]string{"x": "[0000.31.02]", "r": "[0000.30.09] [0000.00.05] [0000.00.00]", "\u0327": "[0000.30.02]"})
	turned(t, old, "&qr <<x", map[string]string{"x": "[0100.20.02] [0000.00.05] [0000.31.02]"})
}

func TestThirdBehindReset(t *testing.T) { // 7.1
	root := table.Root()
	turned(t, root, "&a <<<x", map[string]string{
		"x": "[0100.20.03]", "a": "[0100.20.02]", "A": "[0100.20.09]", "b": "[0108.20.02]", "X": "[01b8.20.09]", "ß": "[0190.20.05] [0190.20.05]", "Æ": "[0100.20.0b] [0120.20.0b]", "æ": "[0100.20.05] [0120.20.05]",
		"é": "[0120.20.02] [0000.24.02]", "É": "[0120.20.09] [0000.24.02]", "-": "[*0018.20.02]", "\u4e00": "[fb00.20.02] [ce00.20.02]",
	})
	turned(t, root, "&A <<<x", map[string]string{"x": "[0100.20.09]", "A": "[0100.20.08]", "B": "[0108.20.08]", "ß": "[0190.20.04] [0190.20.04]", "Æ": "[0100.20.0b] [0120.20.0b]"})
	turned(t, root, "&Æ <<<x", map[string]string{"x": "[0100.20.0a] [0120.20.0b]", "Æ": "[0100.20.0a] [0120.20.0a]"})
	// The mark is k; its other weights stay.
	turned(t, root, "&É <<<x", map[string]string{"x": "[0120.20.09] [0000.24.03]", "É": "[0120.20.09] [0000.24.02]", "\u0301": "[0000.24.02]"})
	turned(t, root, "&\u0301 <<<x", map[string]string{"x": "[0000.24.03]"})
	turned(t, root, "&- <<<x", map[string]string{"x": "[*0018.20.03]", "-": "[*0018.20.02]"})
	// What has a third weight alone is k; what has none is behind it, and gone.
	old := with(t, "q", "[0100.20.02] [0000.00.05]", "r", "[0000.30.09] [0000.00.05] [0000.00.00] [0000.00.00]")
	turned(t, old, "&q <<<x", map[string]string{"x": "[0100.20.02] [0000.00.06]", "r": "[0000.30.0a] [0000.00.05] [0000.00.00] [0000.00.00]", "A": "[0100.20.09]", "ß": "[0190.20.04] [0190.20.04]"})
	turned(t, old, "&r <<<x", map[string]string{"x": "[0000.30.0a] [0000.00.06]", "q": "[0100.20.02] [0000.00.05]"})
	turned(t, old, "&rq <<<x", map[string]string{"x": "[0000.30.0a] [0000.00.05] [0000.00.00] [0000.00.00] [0100.20.02] [0000.00.06]"})
}

func TestSameBehindReset(t *testing.T) { // 7.1
	root := table.Root()
	for s, want := range map[string]string{
		"&a =x": "[0100.20.02]", "&A =x": "[0100.20.08]", "&é =x": "[0120.20.02] [0000.24.02]", "&- =x": "[*0018.20.02]", "&ñÉß =x": "[0168.20.02] [0000.2d.02] [0120.20.08] [0000.24.02] [0190.20.04] [0190.20.04]",
		"&x =x": "[01b8.20.02]", "&\u0301 =x": "[0000.24.02]",
		// Nothing has no weight of any level, but it is an anchor.
		"&\u00ad =x": "", "&\u00ad\u00ad =x": "",
		// With an expansion.
		"&a =x / b": "[0100.20.02] [0108.20.02]", "&a =x / x": "[0100.20.02] [01b8.20.02]", "&é =x / -É": "[0120.20.02] [0000.24.02] [*0018.20.02] [0120.20.08] [0000.24.02]", "&\u00ad =x / ab": "[0100.20.02] [0108.20.02]", "&a =x / \u00ad": "[0100.20.02]",
	} {
		got := turned(t, root, s, map[string]string{"x": want})
		// Nothing else is another one.
		l := root.Entries()
		for i := range l {
			if slices.Equal(l[i].Seq, []int{'x'}) {
				l[i].L = read(t, want)
			}
		}
		if told(got.Entries()) != told(l) {
			t.Errorf("%q changes more than x", s)
		}
	}
	// The anchor stays.
	turned(t, root, "&é =x =y / a =z", map[string]string{"x": "[0120.20.02] [0000.24.02]", "y": "[0120.20.02] [0000.24.02] [0100.20.02]", "z": "[0120.20.02] [0000.24.02]"})
}

func TestBehindRelations(t *testing.T) { // 7.1
	root := table.Root()
	turned(t, root, "&a <b <<c <<<d =e", map[string]string{
		"a": "[0100.20.02]", "b": "[0101.20.02]", "c": "[0101.21.02]", "d": "[0101.21.03]", "e": "[0101.21.03]",
		"A": "[0100.20.09]", "B": "[0109.20.09]", "é": "[0121.20.02] [0000.25.02]", "ß": "[0191.20.05] [0191.20.05]", "f": "[0129.20.02]",
	})
	for s, want := range map[string]string{
		"&a <p <x": "[0102.20.02]", "&a <<p <x": "[0101.20.02]", "&a <<<p <x": "[0101.20.02]", "&a =p <x": "[0101.20.02]",
		"&a <p <<x": "[0101.21.02]", "&a <<p <<x": "[0100.22.02]", "&a <<<p <<x": "[0100.21.02]", "&a =p <<x": "[0100.21.02]",
		"&a <p <<<x": "[0101.20.03]", "&a <<p <<<x": "[0100.21.03]", "&a <<<p <<<x": "[0100.20.04]", "&a =p <<<x": "[0100.20.03]",
		"&a <p =x": "[0101.20.02]", "&a <<p =x": "[0100.21.02]", "&a <<<p =x": "[0100.20.03]", "&a =p =x": "[0100.20.02]",
		"&A <<<p <x": "[0101.20.02]", "&A <<<p <<x": "[0100.21.02]", "&A <<p <<<x": "[0100.21.03]", "&A =p <<<x": "[0100.20.09]",
		"&- <<p <<<x": "[*0018.21.03]", "&- <<<p <<x": "[*0018.21.02]", "&- <<p <x": "[0019.20.02]", "&- <p <<x": "[0019.21.02]",
		"&é <<p <<x": "[0120.20.02] [0000.26.02]", "&é <<p <x": "[0121.20.02]", "&é <p <<x": "[0121.21.02]", "&é <<<p <<x": "[0120.20.02] [0000.25.02]", "&é <<p <<<x": "[0120.20.02] [0000.25.03]",
		"&ñé <<p <x": "[0169.20.02] [0000.2e.02] [0121.20.02]", "&ñé <p <<x": "[0169.20.02] [0000.2e.02] [0121.21.02]",
		// Each reset stands by itself.
		"&a <p &c <x": "[0112.20.02]", "&a <p &p <x": "[0102.20.02]", "&a <<p &é <<x": "[0120.20.02] [0000.26.02]", "&a <p &b =x": "[0109.20.02]",
		// What a rule has given counts from then on, the longest entry first.
		"&c <ch &ch <x": "[0112.20.02]", "&c <ch &cha <x": "[0112.20.02] [0101.20.02]", "&c <ch &c <x": "[0111.20.02]", "&c <ch &hch =x": "[0139.20.02] [0111.20.02]",
		"&a <b &b <x": "[0102.20.02]", "&a <ab <abc &abc <x": "[0103.20.02]", "&a <ab <abc &abd =x": "[0101.20.02] [011a.20.02]",
	} {
		turned(t, root, s, map[string]string{"x": want})
	}
	// The later one stands nearer, where both have one reset; what stood there already makes room.
	x := turned(t, root, "&a <p &a <q", map[string]string{"a": "[0100.20.02]", "q": "[0101.20.02]", "p": "[0102.20.02]", "b": "[010a.20.02]"})
	if cmp(x, "a", "q", false) != -1 || cmp(x, "q", "p", false) != -1 || cmp(x, "p", "b", false) != -1 {
		t.Error("a q p b is not the order")
	}
}

func TestExpansions(t *testing.T) { // 7.1
	root := table.Root()
	for s, want := range map[string]string{
		"&a <x / b": "[0101.20.02] [0109.20.02]", "&a <<x / b": "[0100.21.02] [0108.20.02]", "&a <<<x / b": "[0100.20.03] [0108.20.02]",
		// Its elements are those of the table behind the move, ahead of the entry.
		"&a <x / aé": "[0101.20.02] [0100.20.02] [0121.20.02] [0000.24.02]", "&a <<x / é": "[0100.21.02] [0120.20.02] [0000.25.02]", "&a <<<x / É": "[0100.20.03] [0120.20.09] [0000.24.02]",
		"&a <x / x": "[0101.20.02] [01b9.20.02]", "&a <x / xx": "[0101.20.02] [01b9.20.02] [01b9.20.02]",
		"&c <ch &a =x / chh": "[0100.20.02] [0111.20.02] [0139.20.02]", "&c <ch / ch &a =x / ch": "[0100.20.02] [0111.20.02] [0110.20.02] [0139.20.02]",
		// It is no part of the anchor.
		"&a <y / b <x": "[0102.20.02]", "&a <y / b <<x": "[0101.21.02]", "&a =y / b =x": "[0100.20.02]", "&a =y / b <x": "[0101.20.02]", "&a <y / b =x / c": "[0101.20.02] [0111.20.02]",
		"&\u00ad =y / b =x": "",
	} {
		turned(t, root, s, map[string]string{"x": want})
	}
	fails(t, root, "&\u00ad =y / b <x", api.ErrArg)
}

// Elements of entries: three of them, and eight, the last of which is a mark's.
const (
	three = "[0300.20.02] [0300.20.02] [0300.20.02]"
	eight = three + " " + three + " [0300.20.02] [0000.30.02]"
)

func TestElementsOfResets(t *testing.T) { // 7.1
	old := with(t, "p", three, "q", eight, "pq", "")
	turned(t, old, "&q =x", map[string]string{"x": eight})
	turned(t, old, "&q\u00ad =x", map[string]string{"x": eight})
	turned(t, old, "&pqq =x", map[string]string{"x": eight})
	turned(t, old, "&ppé <x", map[string]string{"x": "[0301.20.02] [0301.20.02] [0301.20.02] [0301.20.02] [0301.20.02] [0301.20.02] [0121.20.02]"})
	turned(t, old, "&ppé <<x", map[string]string{"x": "[0300.20.02] [0300.20.02] [0300.20.02] [0300.20.02] [0300.20.02] [0300.20.02] [0120.20.02] [0000.25.02]"})
	turned(t, old, "&q <x", map[string]string{"x": "[0300.20.02] [0300.20.02] [0300.20.02] [0300.20.02] [0300.20.02] [0300.20.02] [0301.20.02]"})
	for _, s := range []string{"&qa", "&aq", "&q\u0301", "&qq", "&qp", "&ppp", "&ppp <x", "&qa &a", "&a <x &qa", "&a <x &\u4e00qp"} {
		fails(t, old, s, api.ErrArg)
	}
	// Nothing but their number counts: not whether the last ones would be gone.
	fails(t, old, "&q\u0301 <x", api.ErrArg)
	// What rules have given counts.
	turned(t, table.Root(), "&aaa =x &bbb =y &xyæ =z", map[string]string{"z": "[0100.20.02] [0100.20.02] [0100.20.02] [0108.20.02] [0108.20.02] [0108.20.02] [0100.20.04] [0120.20.04]"})
	fails(t, table.Root(), "&aaa =x &xxx", api.ErrArg)
	turned(t, table.Root(), "&aaa =x &xxæ &b =z", map[string]string{"z": "[0108.20.02]"})
}

func TestElementsOfExpansions(t *testing.T) { // 7.1
	old := with(t, "p", three, "q", eight)
	for s, want := range map[string]string{
		"&pp =x / ab":   three + " " + three + " [0100.20.02] [0108.20.02]",
		"&p =x / paa":   three + " " + three + " [0100.20.02] [0100.20.02]",
		"&\u00ad =x/q":  eight,
		"&q =x/\u00ad":  eight,
		"&ßß =x / ßß":   strings.Repeat("[0190.20.04] ", 7) + "[0190.20.04]",
		"&é <<x / ßßß":  "[0120.20.02] [0000.25.02] " + strings.Repeat("[0190.20.04] ", 5) + "[0190.20.04]",
		"&ñé <x / ñéé":  "", // nine
		"&q =x / a":     "",
		"&a =x / q":     "",
		"&ßß =x / ßßa":  "",
		"&pp =x / p":    "",
		"&pp <x / p":    "",
		"&q <x / a":     "[0300.20.02] [0300.20.02] [0300.20.02] [0300.20.02] [0300.20.02] [0300.20.02] [0301.20.02] [0100.20.02]", // The mark is gone ahead of it.
		"&q <x / aa":    "",
		"&q <<x / a":    "",
		"&q =x / qqq":   "",
		"&\u00ad =x/qa": "",
	} {
		if want == "" {
			fails(t, old, s, api.ErrArg)
		} else {
			turned(t, old, s, map[string]string{"x": want})
		}
	}
}

func TestNoWeightOfTheLevel(t *testing.T) { // 7.1
	old := with(t, "p", "[0000.00.05]", "q", "[0000.00.00]", "qq", "", "r", "[0000.00.05] [0000.00.00]")
	for _, x := range []struct {
		seq                  string
		first, second, third bool
	}{
		{"a", true, true, true}, {"-", true, true, true}, {"\u0301", false, true, true}, {"\u0301\u0302\u0303", false, true, true}, {"p", false, false, true}, {"q", false, false, false}, {"qq", false, false, false}, {"qqq", false, false, false}, {"r", false, false, true},
		{"\u00ad", false, false, false}, {"\u00ad\u0301", false, true, true}, {"p\u0301r", false, true, true}, {"pa", true, true, true}, {"aqr", true, true, true}, {"\u00ada\u00ad", true, true, true},
	} {
		for sign, ok := range map[string]bool{"<": x.first, "<<": x.second, "<<<": x.third, "=": true} {
			s := "&" + x.seq + " " + sign + "x"
			if ok {
				turned(t, old, s, nil)
			} else {
				fails(t, old, s, api.ErrArg)
				// It comes ahead of what With would find wrong.
				l := parsed(t, s)
				l[1].Seq = nil
				refused(t, old, l, api.ErrArg)
			}
		}
	}
	turned(t, old, "&p <<<x", map[string]string{"x": "[0000.00.06]"})
	turned(t, old, "&r <<<x", map[string]string{"x": "[0000.00.06]"})
	turned(t, old, "&r =x", map[string]string{"x": "[0000.00.05] [0000.00.00]"})
	// What a relation leaves has what the next one asks for.
	fails(t, old, "&\u0301 <<x <y", api.ErrArg)
	fails(t, old, "&p <<<x <<y", api.ErrArg)
	fails(t, old, "&\u00ad =x <<<y", api.ErrArg)
	// It counts ahead of a table that is full.
	for _, s := range []string{"&\u0301 <x", "&p <<x", "&q <<<x"} {
		fails(t, with(t, "p", "[0000.00.05]", "q", "", "f", "[faff.ff.7f]"), s, api.ErrArg)
	}
}

func TestFirstWeightsAtTheEnd(t *testing.T) { // 7.1
	// Just below the last one.
	old := with(t, "p", "[fafe.20.02]", "q", "[fafd.20.02] [fafe.20.02]")
	turned(t, old, "&p <x", map[string]string{"x": "[faff.20.02]", "p": "[fafe.20.02]", "q": "[fafd.20.02] [fafe.20.02]"})
	turned(t, old, "&a <x", map[string]string{"x": "[0101.20.02]", "p": "[faff.20.02]", "q": "[fafe.20.02] [faff.20.02]"})
	turned(t, old, "&q <x", map[string]string{"x": "[fafd.20.02] [faff.20.02]", "q": "[fafd.20.02] [fafe.20.02]"})
	turned(t, old, "&p <x <<y <<<z =w", map[string]string{"w": "[faff.21.03]"})
	fails(t, old, "&p <x <y", api.ErrFull)
	fails(t, old, "&p <x &a <y", api.ErrFull)
	fails(t, old, "&a <x <y", api.ErrFull)
	// The last one: be it p itself, or above, or below.
	for _, l := range []string{"[faff.20.02]", "[*faff.20.02]", "[faff.30.7f]", "[0100.20.02] [faff.20.02]", "[faff.20.02] [0000.20.02]"} {
		old = with(t, "q", l)
		for _, s := range []string{"&q <x", "&a <x", "&q <q", "&a <q", "&- <x", "&z <x", "&qa <x", "&aq <x", "&a <x / q"} {
			fails(t, old, s, api.ErrFull)
		}
		// Neither another level nor what is no longer there counts.
		turned(t, old, "&a <<x =z", map[string]string{"z": "[0100.21.02]"})
		turned(t, old, "&q =x", map[string]string{"x": l, "q": l})
		turned(t, old, "&a =q <x", map[string]string{"q": "[0100.20.02]", "x": "[0101.20.02]"})
	}
}

func TestFirstWeightsAboveTheEnd(t *testing.T) { // 7.1
	for _, l := range []string{"[fb00.20.02]", "[fb01.20.02]", "[ffff.20.02]", "[0100.20.02] [fb00.20.02] [0000.24.02]", "[faff.20.02] [fb00.20.02]"} {
		old := with(t, "q", l)
		fails(t, old, "&q <x", api.ErrArg)
		fails(t, old, "&aq <x", api.ErrArg)
		fails(t, old, "&q <q", api.ErrArg)
	}
	for _, l := range []string{"[fb00.20.02]", "[fb01.20.02]", "[ffff.20.02]", "[0100.20.02] [fb00.20.02] [0000.24.02]"} {
		old := with(t, "q", l)
		// The other relations do not ask for it, but the table is not sound at last: they do not move it.
		for _, s := range []string{"&q <<x", "&q <<<x", "&q =x", "&qa <x", "&a <x", "&a =x", "&a <x <y <z", "&a"} {
			fails(t, old, s, api.ErrForm)
		}
		// Unless a rule replaces it.
		turned(t, old, "&a <q", map[string]string{"q": "[0101.20.02]", "b": "[0109.20.02]"})
		turned(t, old, "&q =x &a <q <x", map[string]string{"q": "[0101.20.02]", "x": "[0102.20.02]"})
		turned(t, old, "&q <<<x &a <q <x", map[string]string{"q": "[0101.20.02]", "x": "[0102.20.02]"})
	}
	// k is the last one with a first weight, whatever stands ahead of it.
	old := with(t, "q", "[fb00.20.02] [0100.20.02]", "r", "[faff.20.02] [fb00.20.02]")
	turned(t, old, "&a =r &q <x &a =q =x", map[string]string{"b": "[0109.20.02]"})
	fails(t, old, "&q <x", api.ErrFull)
	fails(t, old, "&r <x", api.ErrArg)
}

// Signs that are no entries have two elements, the first of which no entry may have.
func TestImplicitAnchors(t *testing.T) { // 7.1
	root := table.Root()
	for _, s := range []string{
		"&\u4e00 =x", "&\u4e00 <x", "&\u4e00 <<x", "&\u4e00 <<<x", "&a =x / \u4e00", "&a\u4e00 <x", "&\u4e00a <x", "&\x00 <x", "&\xff <x", "&\U0001f600 =x",
		// The second one's first weight just below 0xFB00.
		"&\u7afe <x", "&\u7aff <x", "&\u7aff\u7afea <x", "&\U00017aff <x",
		"&\u7b00 <<x", "&\u7fff <<<x", "&\u7b00 =x",
	} {
		fails(t, root, s, api.ErrForm)
	}
	for _, s := range []string{"&\u7b00 <x", "&\u7fff <x", "&a\u7b00 <x", "&\U0001fb00 <x"} {
		fails(t, root, s, api.ErrArg)
	}
	// What is not in the table does not make it full; in the anchor it is raised out of the bounds of entries.
	fails(t, root, "&\u7affa <x <y", api.ErrForm)
	turned(t, root, "&\u7affa <x &b <x", map[string]string{"x": "[010a.20.02]"})
	fails(t, root, "&\u7affa =x <y", api.ErrFull)
	fails(t, root, "&\u7affa =x &b <x", api.ErrFull)
	// It moves the weights of entries all the same, and itself does not move.
	old := with(t, "p", "[8001.20.02]", "q", "[8000.20.02]")
	x := turned(t, old, "&\x00 <x &a =x", map[string]string{"p": "[8002.20.02]", "q": "[8000.20.02]", "x": "[0100.20.02]", "\x00": "[fb00.20.02] [8000.20.02]", "\x01": "[fb00.20.02] [8001.20.02]"})
	turned(t, x, "&a <x", map[string]string{"p": "[8003.20.02]", "q": "[8001.20.02]", "\x00": "[fb00.20.02] [8000.20.02]", "\x01": "[fb00.20.02] [8001.20.02]"})
}

func TestSecondAndThirdWeightsAtTheEnd(t *testing.T) { // 7.1
	old := with(t, "p", "[0000.fe.7e]", "q", "[0100.fd.02] [0000.fe.7e]")
	turned(t, old, "&p <<x", map[string]string{"x": "[0000.ff.02]", "p": "[0000.fe.7e]", "q": "[0100.fd.02] [0000.fe.7e]"})
	turned(t, old, "&a <<x", map[string]string{"x": "[0100.21.02]", "p": "[0000.ff.7e]", "q": "[0100.fe.02] [0000.ff.7e]"})
	turned(t, old, "&p <<<x", map[string]string{"x": "[0000.fe.7f]", "p": "[0000.fe.7e]", "q": "[0100.fd.02] [0000.fe.7e]"})
	turned(t, old, "&a <<<x", map[string]string{"x": "[0100.20.03]", "p": "[0000.fe.7f]", "q": "[0100.fd.02] [0000.fe.7f]"})
	for _, s := range []string{"&p <<x <<y", "&p <<x &a <<y", "&a <<x <<y", "&p <<<x <<<y", "&p <<<x &a <<<y", "&a <<<x <<<y"} {
		fails(t, old, s, api.ErrFull)
	}
	for _, l := range []string{"[0000.ff.02]", "[0100.ff.02]", "[*0100.ff.02]", "[0100.20.02] [0000.ff.7e]", "[0000.ff.02] [0000.24.02]"} {
		old := with(t, "q", l)
		for _, s := range []string{"&q <<x", "&a <<x", "&a <<q", "&\u0301 <<x", "&é <<x", "&qa <<x"} {
			fails(t, old, s, api.ErrFull)
		}
		turned(t, old, "&a <x <<<y =z", map[string]string{"x": "[0101.20.02]", "y": "[0101.20.03]"})
		turned(t, old, "&q =x", map[string]string{"x": l})
		turned(t, old, "&a =q <<x", map[string]string{"q": "[0100.20.02]", "x": "[0100.21.02]"})
	}
	for _, l := range []string{"[0000.00.7f]", "[0000.20.7f]", "[0100.20.7f]", "[*0100.20.7f]", "[0100.20.02] [0000.00.7f]", "[0100.20.7f] [0000.24.02]"} {
		old := with(t, "q", l)
		for _, s := range []string{"&q <<<x", "&a <<<x", "&a <<<q", "&A <<<x", "&é <<<x", "&qa <<<x"} {
			fails(t, old, s, api.ErrFull)
		}
		turned(t, old, "&a <x <<y =z", map[string]string{"x": "[0101.20.02]", "y": "[0101.21.02]"})
		turned(t, old, "&q =x", map[string]string{"x": l})
		turned(t, old, "&a =q <<<x", map[string]string{"q": "[0100.20.02]", "x": "[0100.20.03]"})
	}
}

func TestFullByRules(t *testing.T) { // 7.1
	for _, x := range []struct {
		rel, steps int
		sign, last string
	}{
		{api.RSecond, 0xFF - 0x30, "\u0327", "[0000.ff.02]"},
		{api.RThird, 0x7F - 0x0A, "Æ", "[0100.20.7f] [0120.20.7f]"},
	} {
		old := table.Root()
		for range x.steps {
			next, e := tailor.Apply(old, []rules.Rule{reset('a'), rule(x.rel, 'x')})
			if e != api.OK {
				t.Fatal(e)
			}
			old = next
		}
		like(t, "the last one", old, map[string]string{x.sign: x.last})
		refused(t, old, []rules.Rule{reset('a'), rule(x.rel, 'x')}, api.ErrFull)
		turned(t, old, "&a <x", map[string]string{"x": "[0101.20.02]"})
	}
}

// noSigns holds numbers that are no signs.
var noSigns = []int{-1, -97, 0xD800, 0xDFFF, 0x110000, 0x110061, 0x11007F, 0x110100, 1 << 31, 1 << 32, 1<<32 + 'a', math.MinInt, math.MaxInt}

func TestWrongSequences(t *testing.T) { // 7.1
	root := table.Root()
	faff := with(t, "q", "[faff.ff.7f]")
	for rel := api.RFirst; rel <= api.RSame; rel++ {
		wrong := [][]int{nil, {}, {'a', 'b', 'c', 'd'}, slices.Repeat([]int{'a'}, 5000)}
		for _, c := range noSigns {
			wrong = append(wrong, []int{c}, []int{'a', c}, []int{'a', 'b', c})
		}
		for _, seq := range wrong {
			refused(t, root, []rules.Rule{reset('a'), rule(rel, seq...)}, api.ErrArg)
			refused(t, root, []rules.Rule{reset('a'), {Rel: rel, Seq: seq, Exp: []int{'b'}}}, api.ErrArg)
			refused(t, root, []rules.Rule{reset('a'), rule(rel, 'x'), rule(rel, seq...), rule(rel, 'y')}, api.ErrArg)
			// It comes behind what the anchor asks for, and ahead of a table that has too many entries or is not sound.
			want := api.ErrFull
			if rel == api.RSame {
				want = api.ErrArg
			}
			refused(t, faff, []rules.Rule{reset('a'), rule(rel, seq...)}, want)
			refused(t, root, []rules.Rule{reset(0x4E00), rule(api.RSame, 'x'), reset('a'), rule(rel, seq...)}, api.ErrArg)
		}
		// Signs that no text has one behind the other are an entry like others.
		x, e := tailor.Apply(root, []rules.Rule{reset('a'), rule(rel, 0x1100C3), rule(rel, 0x1100C3, 0x1100A9)})
		if e != api.OK {
			t.Fatal(rel, e)
		}
		l, ok := x.Entry([]int{0x1100C3, 0x1100A9})
		y, e := tailor.Apply(x, []rules.Rule{reset(0x1100C3, 0x1100A9), {Rel: api.RSame, Seq: []int{'x'}, Exp: []int{0x1100C3, 0x1100A9, 0x1100C3}}})
		if !ok || e != api.OK {
			t.Fatal(rel, ok, e)
		}
		like(t, "bytes that are a sign together", y, map[string]string{"x": show(l) + " " + show(l) + " " + show(x.Elements("\xc3")), "\u00e9": show(x.Elements("\u00e9"))})
	}
}

// Numbers that are no signs have no elements.
func TestWrongSignsAside(t *testing.T) { // 7.1, 7.4
	root := table.Root()
	for _, c := range noSigns {
		for _, x := range []struct {
			l    []rules.Rule
			want string
		}{
			{[]rules.Rule{reset(c), rule(api.RSame, 'x')}, ""},
			{[]rules.Rule{reset(c, 'a', c), rule(api.RFirst, 'x')}, "[0101.20.02]"},
			{[]rules.Rule{reset('a'), {Rel: api.RSame, Seq: []int{'x'}, Exp: []int{c}}}, "[0100.20.02]"},
			{[]rules.Rule{reset('a'), {Rel: api.RSecond, Seq: []int{'x'}, Exp: []int{c, 'b', c}}}, "[0100.21.02] [0108.20.02]"},
		} {
			got, e := tailor.Apply(root, x.l)
			if e != api.OK || show(got.Elements("x")) != x.want {
				t.Errorf("Apply(%v): %d", x.l, e)
			}
		}
		refused(t, root, []rules.Rule{reset(c), rule(api.RFirst, 'x')}, api.ErrArg)
	}
}

// What no text tells is taken as it stands: a reset of no signs or of many, an expansion of many, an expansion of a reset.
func TestRulesThatNoTextTells(t *testing.T) { // 7.1
	root := table.Root()
	for i, x := range []struct {
		l    []rules.Rule
		want string
	}{
		{[]rules.Rule{reset(), rule(api.RSame, 'x')}, ""},
		{[]rules.Rule{reset('a', 'b', 'a', 'b', 'a', 'b', 'a', 'b'), rule(api.RSame, 'x')}, strings.Repeat("[0100.20.02] [0108.20.02] ", 3) + "[0100.20.02] [0108.20.02]"},
		{[]rules.Rule{reset(slices.Concat([]int{'a'}, slices.Repeat([]int{0xAD}, 1000))...), rule(api.RFirst, 'x')}, "[0101.20.02]"},
		{[]rules.Rule{{Rel: api.RReset, Seq: []int{'a'}, Exp: []int{'b'}}, rule(api.RFirst, 'x')}, "[0101.20.02]"},
		{[]rules.Rule{{Rel: api.RReset, Seq: []int{'a'}, Exp: slices.Repeat([]int{'b'}, 100)}, rule(api.RSame, 'x')}, "[0100.20.02]"},
		{[]rules.Rule{reset('a'), {Rel: api.RSame, Seq: []int{'x'}, Exp: []int{'b', 'c', 'b', 'c', 'b', 'c', 'b'}}}, "[0100.20.02] " + strings.Repeat("[0108.20.02] [0110.20.02] ", 3) + "[0108.20.02]"},
	} {
		got, e := tailor.Apply(root, x.l)
		if e != api.OK || show(got.Elements("x")) != x.want {
			t.Errorf("%d: %d", i, e)
		}
	}
	refused(t, root, []rules.Rule{reset(slices.Repeat([]int{'a'}, 9)...)}, api.ErrArg)
	refused(t, root, []rules.Rule{reset('a'), {Rel: api.RSame, Seq: []int{'x'}, Exp: slices.Repeat([]int{'b'}, 8)}}, api.ErrArg)
	// Their number is bounded where they are read.
	if x, e := tailor.Apply(root, slices.Repeat([]rules.Rule{reset('a'), rule(api.RFirst, 'x')}, 100)); e != api.OK || show(x.Elements("xb")) != "[0101.20.02] [016c.20.02]" {
		t.Errorf("Apply of 200 rules: %d", e)
	}
}

func TestManyEntries(t *testing.T) { // 7.1
	old := full(t, api.MaxEntries)
	for _, sign := range []string{"<", "<<", "<<<", "="} {
		// Those that are there are replaced.
		x := turned(t, old, "&a "+sign+"b "+sign+"\u4e00 "+sign+"b", nil)
		if n := len(x.Entries()); n != api.MaxEntries {
			t.Errorf("%d entries", n)
		}
		for _, s := range []string{"&a " + sign + "ab", "&a " + sign + "b " + sign + "\u3000", "&a " + sign + "abc / b"} {
			fails(t, old, s, api.ErrMany)
		}
		// With's errors stand in their order, and those of rules as the rules do.
		fails(t, old, "&ßß "+sign+"ab / ßßß", api.ErrArg)
		fails(t, old, "&a "+sign+"ab / ßßß &ßß "+sign+"ab / ßßß", api.ErrMany)
		// One more, and no other.
		old := full(t, api.MaxEntries-1)
		turned(t, old, "&a "+sign+"ab "+sign+"b "+sign+"ab", nil)
		fails(t, old, "&a "+sign+"ab "+sign+"ac", api.ErrMany)
	}
	// A table that has no room has no weight either: that is found first.
	one, _ := old.With([]int{'q'}, read(t, "[faff.ff.7f]"))
	for _, sign := range []string{"<", "<<", "<<<"} {
		fails(t, one, "&a "+sign+"ab", api.ErrFull)
	}
	fails(t, one, "&a =ab", api.ErrMany)
	// Check comes last.
	unsound, _ := old.With([]int{'q'}, read(t, "[0100.00.00]"))
	fails(t, unsound, "&a <ab", api.ErrMany)
	fails(t, unsound, "&a <b", api.ErrForm)
}

func TestCheckAtLast(t *testing.T) { // 7.1
	root := table.Root()
	for _, sign := range []string{"<", "<<", "<<<", "="} {
		// A beginning that is no entry.
		for _, s := range []string{"\u4e00a", "abc", "\u4e00ab", "\xffa", "!a"} {
			fails(t, root, "&a "+sign+s, api.ErrForm)
			fails(t, root, "&a "+sign+s+" "+sign+"x", api.ErrForm)
		}
		fails(t, root, "&a "+sign+"a\u4e00b", api.ErrForm)
		turned(t, root, "&a "+sign+"a\u4e00", nil)
		// It may yet come.
		turned(t, root, "&a "+sign+"\u4e00a "+sign+"\u4e00", nil)
		turned(t, root, "&a "+sign+"abc &b "+sign+"ab", nil)
		turned(t, root, "&a "+sign+"\u4e00ab "+sign+"\u4e00a "+sign+"\u4e00", nil)
		fails(t, root, "&a "+sign+"\u4e00ab "+sign+"\u4e00", api.ErrForm)
		fails(t, root, "&a "+sign+"\u4e00ab "+sign+"\u4e00a", api.ErrForm)
		// An error of a rule stands ahead.
		fails(t, root, "&a "+sign+"abc &\u0301 <x", api.ErrArg)
		fails(t, root, "&a "+sign+"abc &ßßß "+sign+"x / ßß", api.ErrArg)
	}
	// Elements that are not sound, of the table or of an anchor.
	for _, l := range []string{"[0100.00.00]", "[0100.20.00]", "[0000.20.00]", "[*0000.20.02]", "[*0000.00.00]", "[fb00.20.02]"} {
		old := with(t, "q", l)
		fails(t, old, "&a <x", api.ErrForm)
		fails(t, old, "&q =x &a =q", api.ErrForm)
		fails(t, old, "&a =x / q =q", api.ErrForm)
		turned(t, old, "&a <q", map[string]string{"q": "[0101.20.02]", "b": "[0109.20.02]"})
	}
	// What k has is sound at each level, whatever it had.
	turned(t, with(t, "q", "[0100.00.00]"), "&q <q", map[string]string{"q": "[0101.20.02]"})
	turned(t, with(t, "q", "[0100.20.00]"), "&q <<q", map[string]string{"q": "[0100.21.02]"})
	fails(t, with(t, "q", "[0100.00.02]"), "&q <<<q", api.ErrForm)
}

func TestRead(t *testing.T) { // 7.2
	reads := func(s string, at int, want api.Errno) {
		t.Helper()
		if x, place, e := tailor.Read(s); (x == nil) != (want != api.OK) || place != at || e != want {
			t.Errorf("Read(%q) = %t, %d, %d; want %d, %d", s, x != nil, place, e, at, want)
		}
	}
	// Parse's errors, with their places.
	reads("<a", 0, api.ErrSyntax)
	reads("a", 0, api.ErrSyntax)
	reads("& c < ch x", 9, api.ErrSyntax)
	reads("& c <", 5, api.ErrSyntax)
	reads("&é <abcd", 8, api.ErrSyntax)
	reads("&\xff\\", 3, api.ErrSyntax)
	// They stand ahead of Apply's.
	reads("&\u0301 <x <", 8, api.ErrSyntax)
	reads("&a <abc x", 8, api.ErrSyntax)
	// Those of Apply have no place.
	reads("&a &\u0301 <x", 0, api.ErrArg)
	reads("&\u00ad <<<x", 0, api.ErrArg)
	reads("&a &ßßß =x / ßß", 0, api.ErrArg)
	reads("&a <chz", 0, api.ErrForm)
	reads("&a <x &\u4e00 =x", 0, api.ErrForm)
	// 40 rules, and more.
	reads("&a"+strings.Repeat("<x", 39), 0, api.OK)
	reads("&a"+strings.Repeat("<x", 40), 0, api.ErrMany)
	reads(strings.Repeat("&a", 40), 0, api.OK)
	reads(strings.Repeat("&a", 41), 0, api.ErrMany)
	reads(strings.Repeat("&a", 41)+"/", 82, api.ErrSyntax)
	reads("&\u0301"+strings.Repeat("<x", 40), 0, api.ErrMany)
	reads("&\u0301"+strings.Repeat("<x", 39), 0, api.ErrArg)
	// It is what Apply makes of Root, and refuses what that refuses.
	for _, s := range []string{"", "&a", "& c < ch", "&é <<x / ñ <<<y &- =-- <_", "&\xff\\&<x\n", "&N<ñ<<<Ñ &z<å<<<Å<ä<<<Ä<ö<<<Ö", "&a" + strings.Repeat("<x", 39)} {
		x, at, e := tailor.Read(s)
		want, f := tailor.Apply(table.Root(), parsed(t, s))
		if at != 0 || e != f || (x == nil) != (want == nil) || x != nil && told(x.Entries()) != told(want.Entries()) {
			t.Errorf("Read(%q): %d, %d; Apply %d", s, at, e, f)
		}
	}
}

// Some languages' letters stand where they stand there.
func TestLanguages(t *testing.T) { // 7.1, 7.3
	for _, x := range []struct{ rules, order string }{
		{"&n <ñ <<<Ñ &c <ch <<<Ch <<<CH &l <ll <<<Ll <<<LL", "cz cZ ch Ch CH cha d lz ll Ll LL lla m nz ñ Ñ ñn o"},
		{"&z <å <<<Å <ä <<<Ä <ö <<<Ö", "a ã az z zz å Å åå ä Ä äz ö Ö"},
		{"&ae <<ä <<<Ä &oe <<ö &ue <<ü", "ad ae ä Ä af od oe ö of ud ue ü uf"},
		{"&a <<<x <<y <z", "a x A á y z b c X Y Z"},
	} {
		got, at, e := tailor.Read(x.rules)
		if e != api.OK {
			t.Fatalf("%q: %d at %d", x.rules, e, at)
		}
		for i, l := 1, strings.Fields(x.order); i < len(l); i++ {
			if c := cmp(got, l[i-1], l[i], false); c != -1 {
				t.Errorf("%q: %s to %s: %d", x.rules, l[i-1], l[i], c)
			}
		}
	}
}

// cell is an element as numbers: its weights by their levels.
type cell struct {
	w        [4]int
	variable bool
}

// row is an entry of a plain table.
type row struct {
	seq []int
	l   []cell
}

// plain is a table as the chapter tells it, with an anchor: a list in which all rows are tried.
type plain struct {
	rows   []row
	anchor []cell
	begun  bool
}

// plainly is the plain table of one.
func plainly(x *table.Table) *plain {
	p := &plain{}
	for _, entry := range x.Entries() {
		r := row{seq: entry.Seq}
		for _, e := range entry.L {
			r.l = append(r.l, cell{[4]int{0, e.Weight(1), e.Weight(2), e.Weight(3)}, e.Variable()})
		}
		p.rows = append(p.rows, r)
	}
	return p
}

// cells is what signs have, the longest rows first.
func (p *plain) cells(signs []int) []cell {
	var all []cell
	for len(signs) > 0 {
		var best row
		for _, r := range p.rows {
			if len(r.seq) > len(best.seq) && len(r.seq) <= len(signs) && slices.Equal(r.seq, signs[:len(r.seq)]) {
				best = r
			}
		}
		if len(best.seq) == 0 {
			best = row{signs[:1], []cell{{[4]int{0, 0xFB00 + signs[0]/0x8000, 0x20, 2}, false}, {[4]int{0, 0x8000 + signs[0]%0x8000, 0x20, 2}, false}}}
		}
		all = append(all, best.l...)
		signs = signs[len(best.seq):]
	}
	return all
}

// lists holds the lists of cells of the table and the anchor.
func (p *plain) lists() [][]cell {
	all := [][]cell{p.anchor}
	for _, r := range p.rows {
		all = append(all, r.l)
	}
	return all
}

// step takes one rule as the chapter tells it. The rules are such as a text tells.
func (p *plain) step(r rules.Rule) api.Errno {
	if r.Rel == api.RReset {
		p.anchor, p.begun = slices.Clone(p.cells(r.Seq)), true
		if len(p.anchor) > 8 {
			return api.ErrArg
		}
		return api.OK
	}
	if !p.begun {
		return api.ErrArg
	}
	if r.Rel != api.RSame {
		if e := p.move(r.Rel - api.RReset); e != api.OK {
			return e
		}
	}
	l := append(slices.Clone(p.anchor), p.cells(r.Exp)...)
	if len(l) > 8 {
		return api.ErrArg
	}
	for i := range p.rows {
		if slices.Equal(p.rows[i].seq, r.Seq) {
			p.rows[i].l = l
			return api.OK
		}
	}
	if len(p.rows) == 500 {
		return api.ErrMany
	}
	p.rows = append(p.rows, row{r.Seq, l})
	return api.OK
}

func (p *plain) move(level int) api.Errno {
	end := []int{0, 0xFB00, 0x100, 0x80}[level]
	k := -1
	for i, c := range p.anchor {
		if c.w[level] > 0 {
			k = i
		}
	}
	if k < 0 || p.anchor[k].w[level] >= end {
		return api.ErrArg
	}
	for _, l := range p.lists()[1:] {
		for _, c := range l {
			if c.w[level] == end-1 {
				return api.ErrFull
			}
		}
	}
	from := p.anchor[k].w[level]
	for _, l := range p.lists() {
		for i := range l {
			if w := l[i].w[level]; w > from && w < end {
				l[i].w[level]++
			}
		}
	}
	p.anchor = p.anchor[:k+1]
	switch level {
	case 1:
		p.anchor[k] = cell{[4]int{0, from + 1, 0x20, 2}, false}
	case 2:
		p.anchor[k].w[2], p.anchor[k].w[3] = from+1, 2
	case 3:
		p.anchor[k].w[3] = from + 1
	}
	return api.OK
}

// check tells whether the table is sound.
func (p *plain) check() api.Errno {
	there := map[string]bool{}
	for _, r := range p.rows {
		there[fmt.Sprint(r.seq)] = true
	}
	for _, r := range p.rows {
		for n := 1; n <= len(r.seq); n++ {
			if !there[fmt.Sprint(r.seq[:n])] {
				return api.ErrForm
			}
		}
		for _, c := range r.l {
			if c.w[1] >= 0xFB00 || c.w[1] > 0 && c.w[2] == 0 || c.w[2] > 0 && c.w[3] == 0 || c.variable && c.w[1] == 0 {
				return api.ErrForm
			}
		}
	}
	return api.OK
}

// told tells the plain table's rows as told does a table's entries, each in its place.
func (p *plain) told() string {
	var l []table.Entry
	for _, r := range p.rows {
		entry := table.Entry{Seq: r.seq}
		for _, c := range r.l {
			e, _ := elem.Make(c.w[1], c.w[2], c.w[3], c.variable)
			entry.L = append(entry.L, e)
		}
		l = append(l, entry)
	}
	slices.SortFunc(l, func(a, b table.Entry) int {
		if a.Seq[0] != b.Seq[0] {
			return a.Seq[0] - b.Seq[0]
		}
		if len(a.Seq) != len(b.Seq) {
			return len(a.Seq) - len(b.Seq)
		}
		return slices.Compare(a.Seq, b.Seq)
	})
	return told(l)
}

// agree holds Apply against the plain table, and tells what it answers.
func agree(t *testing.T, old *table.Table, l []rules.Rule) (*table.Table, api.Errno) {
	t.Helper()
	p, want := plainly(old), api.OK
	for _, r := range l {
		if want = p.step(r); want != api.OK {
			break
		}
	}
	if want == api.OK {
		want = p.check()
	}
	got, e := tailor.Apply(old, l)
	if e != want || (got == nil) != (e != api.OK) {
		t.Fatalf("Apply(%v) = %t, %d; want %d", l, got != nil, e, want)
	}
	if got != nil && told(got.Entries()) != p.told() {
		t.Fatalf("Apply(%v) is\n%s\nnot\n%s", l, told(got.Entries()), p.told())
	}
	return got, e
}

// drawn is rules over the sequences, as a text may tell them: a reset, and others.
func drawn(r *rand.Rand, seqs []string, n int) []rules.Rule {
	draw := func() []int { return utext.Signs(seqs[r.IntN(len(seqs))]) }
	l := []rules.Rule{reset(draw()...)}
	for range n {
		x := rule(api.RReset+r.IntN(5), draw()...)
		if x.Rel != api.RReset && r.IntN(4) == 0 {
			x.Exp = draw()
		}
		l = append(l, x)
	}
	return l
}

// some holds sequences of all kinds.
var some = []string{"a", "b", "c", "ch", "cha", "h", "z", "A", "é", "É", "ñ", "ß", "æ", "Æ", "-", "_", "'", "0", "9", "\u0301", "\u0327", "\u00ad", "e\u0301", "ab", "abc", "\u4e00", "\u7aff", "\xff", "x", "xy", "ñé"}

func TestAgainstThePlainTable(t *testing.T) { // 7.1
	root := table.Root()
	edge := with(t, "a", "[0100.20.02] [0000.fd.7d]", "b", "[*fafd.20.02]", "c", "[fb00.20.02] [0108.20.02]", "h", "[0000.00.05]", "x", "[8000.30.7d] [0000.00.00]")
	// All pairs of a reset and a rule, ...
	for _, a := range some {
		for _, b := range some {
			for rel := api.RFirst; rel <= api.RSame; rel++ {
				agree(t, root, []rules.Rule{reset(utext.Signs(a)...), rule(rel, utext.Signs(b)...)})
				agree(t, edge, []rules.Rule{reset(utext.Signs(a)...), {Rel: rel, Seq: []int{'x'}, Exp: utext.Signs(b)}})
			}
		}
	}
	// ... and longer ones, as a source of fixed numbers draws them.
	r := rand.New(rand.NewPCG(7, 1))
	answers := map[api.Errno]int{}
	for range 1500 {
		for _, old := range []*table.Table{root, edge} {
			_, e := agree(t, old, drawn(r, some, r.IntN(12)))
			answers[e]++
		}
	}
	for _, e := range []api.Errno{api.OK, api.ErrArg, api.ErrForm, api.ErrFull} {
		if answers[e] < 25 {
			t.Errorf("error %d is answered %d times", e, answers[e])
		}
	}
}

// Texts that no rule names are held against each other at each level, and so is how like they are.
func TestOthersStandAsBefore(t *testing.T) { // 7.3, W6
	r := rand.New(rand.NewPCG(7, 3))
	signs := utext.Signs("aAbcCdehzZéÉèñßæÆ-_ '09\u0301\u0304\u0327\u00ad!\u4e00\u7aff\U0001f600\xff")
	named := []string{"a", "b", "ch", "cha", "é", "x", "xy", "z", "-", "ß", "\u0301", "e\u0301", "ab", "\u4e00", "Z"}
	tables := 0
	for tables < 400 {
		old := table.Root()
		if tables%2 == 1 {
			old = with(t, "q", "[fa00.fa.70]", "cd", "[0113.20.02] [8123.2a.05]")
		}
		l := drawn(r, named, 1+r.IntN(8))
		x, e := tailor.Apply(old, l)
		if e != api.OK {
			continue
		}
		tables++
		texts := unnamed(r, signs, l, 20)
		for _, a := range texts {
			for _, b := range texts {
				for _, shift := range []bool{false, true} {
					if was, is := cmp(old, a, b, shift), cmp(x, a, b, shift); was != is {
						t.Fatalf("behind %v: %q to %q: %d; before: %d", l, a, b, is, was)
					}
				}
				for level := 1; level <= 3; level++ {
					was := slices.Compare(weights(old, a, level, false), weights(old, b, level, false))
					if is := slices.Compare(weights(x, a, level, false), weights(x, b, level, false)); was != is {
						t.Fatalf("behind %v: %q to %q at level %d: %d; before: %d", l, a, b, level, is, was)
					}
				}
			}
		}
	}
}

// unnamed draws texts in which no sequence of the rules, but of resets, stands.
func unnamed(r *rand.Rand, signs []int, l []rules.Rule, n int) []string {
	var texts []string
	for len(texts) < n {
		var b strings.Builder
		for range r.IntN(6) {
			c, _ := utext.Bytes([]int{signs[r.IntN(len(signs))]})
			b.WriteString(c)
		}
		names := func(x rules.Rule) bool {
			s, _ := utext.Bytes(x.Seq)
			return x.Rel != api.RReset && strings.Contains(b.String(), s)
		}
		if !slices.ContainsFunc(l, names) {
			texts = append(texts, b.String())
		}
	}
	return texts
}

func TestHandedInStays(t *testing.T) { // 7.4
	old := with(t, "ch", "[0111.20.02]", "q", "[fa00.fa.70]")
	want := told(old.Entries())
	seq, exp, more := []int{'c', 'h', 'z', 7, 8}, []int{'a', 'b', 5}, []int{'x', 9}
	l := []rules.Rule{reset('c'), {Rel: api.RFirst, Seq: seq[:3], Exp: exp[:2]}, {Rel: api.RSecond, Seq: more[:1]}, {Rel: api.RThird, Seq: seq[:2], Exp: seq[:3]}, {Rel: api.RSame, Seq: []int{'y'}}, {Rel: 77, Seq: seq}}
	before := fmt.Sprint(l)
	for n := range len(l) + 1 {
		x, e := tailor.Apply(old, l[:n])
		if (e != api.OK) != (n == len(l)) {
			t.Fatal(n, e)
		}
		if got := told(old.Entries()); got != want {
			t.Fatalf("behind %d rules the table is %s", n, got)
		}
		if fmt.Sprint(l) != before || !slices.Equal(seq, []int{'c', 'h', 'z', 7, 8}) || !slices.Equal(exp, []int{'a', 'b', 5}) || !slices.Equal(more, []int{'x', 9}) {
			t.Fatalf("behind %d rules they are %v", n, l)
		}
		if x == old {
			t.Errorf("%d rules: the table is not a new one", n)
		}
	}
	// Nor does it where the rules are refused midway.
	for _, s := range []string{"&a <x &\u0301 <y", "&a <x &ßßß =ß / ßß", "&a <<x <<<y =z <chx &a <!!"} {
		if x, e := tailor.Apply(old, parsed(t, s)); x != nil || e == api.OK || told(old.Entries()) != want {
			t.Errorf("Apply(%q): %d", s, e)
		}
	}
}

func TestAnswersAreNewMemory(t *testing.T) { // 7.4
	old := with(t, "ch", "[0111.20.02]")
	seq, exp := []int{'c', 'h', 'z'}, []int{'a', 'b'}
	l := []rules.Rule{reset('c'), {Rel: api.RFirst, Seq: seq, Exp: exp}, {Rel: api.RSame, Seq: seq[:1]}}
	x, _ := tailor.Apply(old, l)
	y, _ := tailor.Apply(old, l)
	want, before := told(x.Entries()), told(old.Entries())
	for _, list := range [][]int{seq, exp} {
		for i := range list {
			list[i] = -7
		}
	}
	clear(l)
	if told(x.Entries()) != want || told(y.Entries()) != want {
		t.Error("what is handed in is kept")
	}
	for _, entry := range x.Entries() {
		clear(entry.Seq)
		clear(entry.L[:cap(entry.L)])
	}
	if told(x.Entries()) != want || told(y.Entries()) != want || told(old.Entries()) != before {
		t.Error("tables share memory with what they tell")
	}
	// Each table goes its own way.
	if _, e := tailor.Apply(x, []rules.Rule{reset('a'), rule(api.RFirst, 'x')}); e != api.OK || told(x.Entries()) != want || told(old.Entries()) != before {
		t.Error("a table changes with another one")
	}
	first, _, _ := tailor.Read("&a <x")
	second, _, _ := tailor.Read("&a <x")
	if first == second || told(first.Entries()) != told(second.Entries()) {
		t.Error("two answers of Read are one")
	}
}

func TestNoPanic(t *testing.T) { // 7.4
	defer func() {
		if p := recover(); p != nil {
			t.Fatal(p)
		}
	}()
	root := table.Root()
	numbers := append([]int{0, 1, 'a', ' ', 0xAD, 0x301, 0x7AFF, 0x10FFFF, 0x110080, 0x1100FF}, noSigns...)
	for _, rel := range append([]int{1, 2, 3, 4, 5}, noRelations...) {
		for _, a := range numbers {
			for _, b := range []int{'a', 0x301, 0xAD, -1} {
				x, e := tailor.Apply(root, []rules.Rule{reset(a, b), {Rel: rel, Seq: []int{b, a}, Exp: []int{a}}, {Rel: rel, Seq: []int{a}}})
				if (x == nil) != (e != api.OK) {
					t.Fatal(rel, a, b, e)
				}
			}
		}
	}
	for _, s := range []string{"\x00", "\xff", "&", "&\xff\xfe\x80", "&a<\xc3<\xa9", "&a=\xc3\\\xa9", "& a < \\", strings.Repeat("&a<b", 20000), strings.Repeat("\\", 20001)} {
		if x, at, e := tailor.Read(s); (x == nil) != (e != api.OK) || at < 0 || at > len(s) {
			t.Fatalf("Read(%q): %d, %d", s, at, e)
		}
	}
}
