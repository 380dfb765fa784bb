package table_test

import (
	"fmt"
	"math"
	"slices"
	"strconv"
	"strings"
	"testing"

	"umlaut/api"
	"umlaut/elem"
	"umlaut/table"
	"umlaut/utext"
)

// last is the last sign: the byte FF, which begins no code point.
const last = 0x1100FF

// rootText tells all entries of Root in order, a line each: the sign and its elements.
const rootText = `
0020 [*0010.20.02]
0027 [*0024.20.02]
002c [*001c.20.02]
002d [*0018.20.02]
002e [*0020.20.02]
0030 [0080.20.02]
0031 [0084.20.02]
0032 [0088.20.02]
0033 [008c.20.02]
0034 [0090.20.02]
0035 [0094.20.02]
0036 [0098.20.02]
0037 [009c.20.02]
0038 [00a0.20.02]
0039 [00a4.20.02]
0041 [0100.20.08]
0042 [0108.20.08]
0043 [0110.20.08]
0044 [0118.20.08]
0045 [0120.20.08]
0046 [0128.20.08]
0047 [0130.20.08]
0048 [0138.20.08]
0049 [0140.20.08]
004a [0148.20.08]
004b [0150.20.08]
004c [0158.20.08]
004d [0160.20.08]
004e [0168.20.08]
004f [0170.20.08]
0050 [0178.20.08]
0051 [0180.20.08]
0052 [0188.20.08]
0053 [0190.20.08]
0054 [0198.20.08]
0055 [01a0.20.08]
0056 [01a8.20.08]
0057 [01b0.20.08]
0058 [01b8.20.08]
0059 [01c0.20.08]
005a [01c8.20.08]
005f [*0014.20.02]
0061 [0100.20.02]
0062 [0108.20.02]
0063 [0110.20.02]
0064 [0118.20.02]
0065 [0120.20.02]
0066 [0128.20.02]
0067 [0130.20.02]
0068 [0138.20.02]
0069 [0140.20.02]
006a [0148.20.02]
006b [0150.20.02]
006c [0158.20.02]
006d [0160.20.02]
006e [0168.20.02]
006f [0170.20.02]
0070 [0178.20.02]
0071 [0180.20.02]
0072 [0188.20.02]
0073 [0190.20.02]
0074 [0198.20.02]
0075 [01a0.20.02]
0076 [01a8.20.02]
0077 [01b0.20.02]
0078 [01b8.20.02]
0079 [01c0.20.02]
007a [01c8.20.02]
00ad
00c0 [0100.20.08] [0000.25.02]
00c1 [0100.20.08] [0000.24.02]
00c2 [0100.20.08] [0000.27.02]
00c3 [0100.20.08] [0000.2d.02]
00c4 [0100.20.08] [0000.2b.02]
00c5 [0100.20.08] [0000.29.02]
00c6 [0100.20.0a] [0120.20.0a]
00c7 [0110.20.08] [0000.30.02]
00c8 [0120.20.08] [0000.25.02]
00c9 [0120.20.08] [0000.24.02]
00ca [0120.20.08] [0000.27.02]
00cb [0120.20.08] [0000.2b.02]
00cc [0140.20.08] [0000.25.02]
00cd [0140.20.08] [0000.24.02]
00ce [0140.20.08] [0000.27.02]
00cf [0140.20.08] [0000.2b.02]
00d1 [0168.20.08] [0000.2d.02]
00d2 [0170.20.08] [0000.25.02]
00d3 [0170.20.08] [0000.24.02]
00d4 [0170.20.08] [0000.27.02]
00d5 [0170.20.08] [0000.2d.02]
00d6 [0170.20.08] [0000.2b.02]
00d9 [01a0.20.08] [0000.25.02]
00da [01a0.20.08] [0000.24.02]
00db [01a0.20.08] [0000.27.02]
00dc [01a0.20.08] [0000.2b.02]
00dd [01c0.20.08] [0000.24.02]
00df [0190.20.04] [0190.20.04]
00e0 [0100.20.02] [0000.25.02]
00e1 [0100.20.02] [0000.24.02]
00e2 [0100.20.02] [0000.27.02]
00e3 [0100.20.02] [0000.2d.02]
00e4 [0100.20.02] [0000.2b.02]
00e5 [0100.20.02] [0000.29.02]
00e6 [0100.20.04] [0120.20.04]
00e7 [0110.20.02] [0000.30.02]
00e8 [0120.20.02] [0000.25.02]
00e9 [0120.20.02] [0000.24.02]
00ea [0120.20.02] [0000.27.02]
00eb [0120.20.02] [0000.2b.02]
00ec [0140.20.02] [0000.25.02]
00ed [0140.20.02] [0000.24.02]
00ee [0140.20.02] [0000.27.02]
00ef [0140.20.02] [0000.2b.02]
00f1 [0168.20.02] [0000.2d.02]
00f2 [0170.20.02] [0000.25.02]
00f3 [0170.20.02] [0000.24.02]
00f4 [0170.20.02] [0000.27.02]
00f5 [0170.20.02] [0000.2d.02]
00f6 [0170.20.02] [0000.2b.02]
00f9 [01a0.20.02] [0000.25.02]
00fa [01a0.20.02] [0000.24.02]
00fb [01a0.20.02] [0000.27.02]
00fc [01a0.20.02] [0000.2b.02]
00fd [01c0.20.02] [0000.24.02]
0300 [0000.25.02]
0301 [0000.24.02]
0302 [0000.27.02]
0303 [0000.2d.02]
0304 [0000.2f.02]
0308 [0000.2b.02]
030a [0000.29.02]
0327 [0000.30.02]`

// read is the elements of a text, parted by blanks.
func read(t *testing.T, text string) []elem.Elem {
	t.Helper()
	var l []elem.Elem
	for _, s := range strings.Fields(text) {
		e, err := elem.Parse(s)
		if err != api.OK {
			t.Fatalf("%q is no element", s)
		}
		l = append(l, e)
	}
	return l
}

// rootEntries reads rootText.
func rootEntries(t *testing.T) []table.Entry {
	t.Helper()
	var l []table.Entry
	for _, line := range strings.Split(strings.TrimSpace(rootText), "\n") {
		sign, rest, _ := strings.Cut(line, " ")
		c, err := strconv.ParseInt(sign, 16, 32)
		if err != nil {
			t.Fatal(err)
		}
		l = append(l, table.Entry{Seq: []int{int(c)}, L: read(t, rest)})
	}
	return l
}

// show tells elements by their texts.
func show(l []elem.Elem) string {
	var texts []string
	for _, e := range l {
		texts = append(texts, e.Text())
	}
	return strings.Join(texts, " ")
}

// told tells entries as a text.
func told(l []table.Entry) string {
	var b strings.Builder
	for _, x := range l {
		fmt.Fprintf(&b, "%x %s\n", x.Seq, show(x.L))
	}
	return b.String()
}

// with adds an entry that is not wrong; its elements are told by a text.
func with(t *testing.T, old *table.Table, seq []int, l string) *table.Table {
	t.Helper()
	next, e := old.With(seq, read(t, l))
	if next == nil || e != api.OK {
		t.Fatalf("With(%x, %s) = %t, %d", seq, l, next != nil, e)
	}
	return next
}

// plain is the plain table: its entries in a list, in which all that fit are tried.
type plain []table.Entry

func (p plain) entry(seq []int) ([]elem.Elem, bool) {
	for _, x := range p {
		if slices.Equal(x.Seq, seq) {
			return x.L, true
		}
	}
	return nil, false
}

func (p plain) with(seq []int, l []elem.Elem) plain {
	var next plain
	for _, x := range p {
		if !slices.Equal(x.Seq, seq) {
			next = append(next, x)
		}
	}
	return append(next, table.Entry{Seq: slices.Clone(seq), L: slices.Clone(l)})
}

// entries goes through first signs, numbers of signs and so on as the document tells the order, without holding two entries against each other.
func (p plain) entries() []table.Entry {
	var all []table.Entry
	for n := 3; n >= 1; n-- {
		var l []table.Entry
		for _, x := range p {
			if len(x.Seq) == n {
				l = append(l, x)
			}
		}
		for k := n - 1; k >= 1; k-- {
			slices.SortStableFunc(l, func(a, b table.Entry) int { return a.Seq[k] - b.Seq[k] })
		}
		all = append(l, all...)
	}
	slices.SortStableFunc(all, func(a, b table.Entry) int { return a.Seq[0] - b.Seq[0] })
	return all
}

func (p plain) at(signs []int, at int) (l []elem.Elem, used int) {
	if at < 0 || at >= len(signs) {
		return nil, 0
	}
	l, used = implicit(signs[at]), 1
	longest := 0
	for _, x := range p {
		end := at + len(x.Seq)
		if len(x.Seq) > longest && end <= len(signs) && slices.Equal(x.Seq, signs[at:end]) {
			l, used, longest = x.L, len(x.Seq), len(x.Seq)
		}
	}
	return l, used
}

func (p plain) elements(b string) []elem.Elem {
	var all []elem.Elem
	signs := utext.Signs(b)
	for at := 0; at < len(signs); {
		l, used := p.at(signs, at)
		all = append(all, l...)
		at += used
	}
	return all
}

// isSign is what chapter 2 calls a sign.
func isSign(c int) bool {
	return 0 <= c && c < 0xD800 || 0xE000 <= c && c < 0x110000 || 0x110080 <= c && c <= last
}

// implicit is Implicit, by quotients where the package shifts, and by a text.
func implicit(c int) []elem.Elem {
	if !isSign(c) {
		return nil
	}
	var l []elem.Elem
	for _, w := range []int{0xFB00 + c/32768, 32768 + c%32768} {
		e, _ := elem.Parse(fmt.Sprintf("[%04x.20.02]", w))
		l = append(l, e)
	}
	return l
}

// noSigns holds numbers that are no signs.
func noSigns() []int {
	return []int{-1, -2, -97, 0xD800, 0xD801, 0xDABC, 0xDFFF, 0x110000, 0x110001, 0x11007F, 0x110100, 0x110101, 0x120000, 1 << 31, 1 << 32, 1<<32 + 'a', math.MinInt32, math.MaxInt32, math.MinInt, math.MinInt + 1, math.MaxInt - 1, math.MaxInt}
}

// edges holds signs at the edges of what is a sign.
func edges() []int {
	return []int{0, 1, 0x7F, 0x80, 0x7FF, 0x800, 0x7FFF, 0x8000, 0xD7FF, 0xE000, 0xFFFF, 0x10000, 0x10FFFF, 0x110080, 0x1100C3, last - 1, last}
}

// agree holds all that got tells against the plain table.
func agree(t *testing.T, name string, got *table.Table, want plain) {
	t.Helper()
	if g, w := told(got.Entries()), told(want.entries()); g != w {
		t.Fatalf("%s: Entries are\n%s\nnot\n%s", name, g, w)
	}
	for _, x := range want {
		if l, ok := got.Entry(x.Seq); !ok || !slices.Equal(l, x.L) {
			t.Fatalf("%s: Entry(%x) = %s, %t; want %s", name, x.Seq, show(l), ok, show(x.L))
		}
		signs := append(append([]int{'b'}, x.Seq...), 'h')
		for at := -1; at <= len(signs); at++ {
			l, used := got.At(signs, at)
			if wl, wused := want.at(signs, at); used != wused || !slices.Equal(l, wl) {
				t.Fatalf("%s: At(%x, %d) = %s, %d; want %s, %d", name, signs, at, show(l), used, show(wl), wused)
			}
		}
	}
}

func TestRoot(t *testing.T) { // 5.1
	root, want := table.Root(), rootEntries(t)
	if len(want) != 132 {
		t.Fatalf("%d entries are expected here", len(want))
	}
	agree(t, "Root", root, want)
	there := map[int]bool{}
	for _, x := range want {
		there[x.Seq[0]] = true
	}
	for c := -10; c <= last+10; c++ {
		if l, ok := root.Entry([]int{c}); ok != there[c] || !ok && l != nil {
			t.Fatalf("Entry(%x) = %s, %t", c, show(l), ok)
		}
	}
}

// Here each kind of entry is told by what the chapter says of it, one by one.
func TestRootByHand(t *testing.T) { // 5.1
	root := table.Root()
	for text, want := range map[string]string{
		" ": "[*0010.20.02]", "_": "[*0014.20.02]", "-": "[*0018.20.02]", ",": "[*001c.20.02]", ".": "[*0020.20.02]", "'": "[*0024.20.02]",
		"0": "[0080.20.02]", "1": "[0084.20.02]", "9": "[00a4.20.02]",
		"a": "[0100.20.02]", "b": "[0108.20.02]", "z": "[01c8.20.02]",
		"A": "[0100.20.08]", "B": "[0108.20.08]", "Z": "[01c8.20.08]",
		"\u0300": "[0000.25.02]", "\u0301": "[0000.24.02]", "\u0302": "[0000.27.02]", "\u0303": "[0000.2d.02]", "\u0304": "[0000.2f.02]",
		"\u0308": "[0000.2b.02]", "\u030a": "[0000.29.02]", "\u0327": "[0000.30.02]",
		"À": "[0100.20.08] [0000.25.02]", "Å": "[0100.20.08] [0000.29.02]", "å": "[0100.20.02] [0000.29.02]",
		"Ç": "[0110.20.08] [0000.30.02]", "ç": "[0110.20.02] [0000.30.02]",
		"È": "[0120.20.08] [0000.25.02]", "Ë": "[0120.20.08] [0000.2b.02]", "ê": "[0120.20.02] [0000.27.02]",
		"Í": "[0140.20.08] [0000.24.02]", "ï": "[0140.20.02] [0000.2b.02]",
		"Ñ": "[0168.20.08] [0000.2d.02]", "ñ": "[0168.20.02] [0000.2d.02]",
		"Õ": "[0170.20.08] [0000.2d.02]", "ö": "[0170.20.02] [0000.2b.02]",
		"Ú": "[01a0.20.08] [0000.24.02]", "ü": "[01a0.20.02] [0000.2b.02]",
		"Ý": "[01c0.20.08] [0000.24.02]", "ý": "[01c0.20.02] [0000.24.02]",
		"ß": "[0190.20.04] [0190.20.04]", "Æ": "[0100.20.0a] [0120.20.0a]", "æ": "[0100.20.04] [0120.20.04]",
		"\u00ad": "",
		// Neighbours of these are no entries.
		"\x00": "[fb00.20.02] [8000.20.02]", "!": "[fb00.20.02] [8021.20.02]", "/": "[fb00.20.02] [802f.20.02]", ":": "[fb00.20.02] [803a.20.02]",
		"@": "[fb00.20.02] [8040.20.02]", "[": "[fb00.20.02] [805b.20.02]", "`": "[fb00.20.02] [8060.20.02]", "{": "[fb00.20.02] [807b.20.02]",
		"\u00ac": "[fb00.20.02] [80ac.20.02]", "\u00ae": "[fb00.20.02] [80ae.20.02]", "Ð": "[fb00.20.02] [80d0.20.02]", "ð": "[fb00.20.02] [80f0.20.02]",
		"×": "[fb00.20.02] [80d7.20.02]", "÷": "[fb00.20.02] [80f7.20.02]", "Ø": "[fb00.20.02] [80d8.20.02]", "ø": "[fb00.20.02] [80f8.20.02]",
		"Þ": "[fb00.20.02] [80de.20.02]", "þ": "[fb00.20.02] [80fe.20.02]", "ÿ": "[fb00.20.02] [80ff.20.02]",
		"\u02ff": "[fb00.20.02] [82ff.20.02]", "\u0305": "[fb00.20.02] [8305.20.02]", "\u0307": "[fb00.20.02] [8307.20.02]",
		"\u0309": "[fb00.20.02] [8309.20.02]", "\u030b": "[fb00.20.02] [830b.20.02]", "\u0326": "[fb00.20.02] [8326.20.02]", "\u0328": "[fb00.20.02] [8328.20.02]",
	} {
		if got := show(root.Elements(text)); got != want {
			t.Errorf("Elements(%q) = %s; want %s", text, got, want)
		}
		_, there := root.Entry(utext.Signs(text))
		if there == strings.HasPrefix(want, "[fb00") {
			t.Errorf("Entry(%q) is there: %t", text, there)
		}
	}
}

func TestExamples(t *testing.T) { // 5.1, 5.2
	for text, want := range map[string]string{"ab": "[0100.20.02] [0108.20.02]", "é": "[0120.20.02] [0000.24.02]"} {
		if got := show(table.Root().Elements(text)); got != want {
			t.Errorf("Elements(%s) = %s; want %s", text, got, want)
		}
	}
}

func TestImplicitByHand(t *testing.T) { // 5.2
	for c, want := range map[int]string{
		0:        "[fb00.20.02] [8000.20.02]",
		1:        "[fb00.20.02] [8001.20.02]",
		'a':      "[fb00.20.02] [8061.20.02]",
		0x4E00:   "[fb00.20.02] [ce00.20.02]",
		0x7FFE:   "[fb00.20.02] [fffe.20.02]",
		0x7FFF:   "[fb00.20.02] [ffff.20.02]",
		0x8000:   "[fb01.20.02] [8000.20.02]",
		0x8001:   "[fb01.20.02] [8001.20.02]",
		0xFFFF:   "[fb01.20.02] [ffff.20.02]",
		0x10000:  "[fb02.20.02] [8000.20.02]",
		0x17FFF:  "[fb02.20.02] [ffff.20.02]",
		0x18000:  "[fb03.20.02] [8000.20.02]",
		0x10FFFF: "[fb21.20.02] [ffff.20.02]",
		0x110080: "[fb22.20.02] [8080.20.02]",
		last:     "[fb22.20.02] [80ff.20.02]",
	} {
		if got := show(table.Implicit(c)); got != want {
			t.Errorf("Implicit(%x) = %s; want %s", c, got, want)
		}
	}
	for _, c := range noSigns() {
		if got := table.Implicit(c); len(got) != 0 {
			t.Errorf("Implicit(%x) = %s", c, show(got))
		}
	}
}

func TestImplicitOfAll(t *testing.T) { // 5.2
	for c := -0x1000; c < last+0x1000; c++ {
		got := table.Implicit(c)
		if !isSign(c) {
			if len(got) != 0 {
				t.Fatalf("Implicit(%x) = %s", c, show(got))
			}
			continue
		}
		if len(got) != 2 || int(got[0]) != (0xFB00+c/32768)*65536+0x2004 || int(got[1]) != (32768+c%32768)*65536+0x2004 {
			t.Fatalf("Implicit(%x) = %s", c, show(got))
		}
	}
}

// czech has entries of one sign, of two and of three, one of three with no entry of two that it begins with.
func czech(t *testing.T) (*table.Table, plain) {
	t.Helper()
	got, want := table.Root(), plain(rootEntries(t))
	for _, x := range []struct {
		seq []int
		l   string
	}{
		{[]int{'c', 'h'}, "[0131.20.02]"},
		{[]int{'c', 'h', 'a'}, "[0132.20.02] [0133.20.02]"},
		{[]int{'d', 'z', 'z'}, "[0134.20.02]"},
		{[]int{'x', 0x1100FF}, ""},
		{[]int{'!', '!'}, "[0135.20.02]"},
		{[]int{0x1100C3, 0x1100A9}, "[0136.20.02]"},
		{[]int{'h', 'h'}, "[0137.20.02]"},
		{[]int{0, 0}, "[0138.20.02]"},
	} {
		got, want = with(t, got, x.seq, x.l), want.with(x.seq, read(t, x.l))
	}
	return got, want
}

func TestAt(t *testing.T) { // 5.2, 5.4
	x, want := czech(t)
	for _, c := range []struct {
		signs []int
		at    int
		l     string
		used  int
	}{
		{[]int{'c', 'h', 'a'}, 0, "[0132.20.02] [0133.20.02]", 3},
		{[]int{'c', 'h', 'a', 'c'}, 0, "[0132.20.02] [0133.20.02]", 3},
		{[]int{'c', 'h'}, 0, "[0131.20.02]", 2},
		{[]int{'c', 'h', 'b'}, 0, "[0131.20.02]", 2},
		{[]int{'c', 'h', -1}, 0, "[0131.20.02]", 2},
		{[]int{'c', 'h', 0}, 0, "[0131.20.02]", 2},
		{[]int{'c', 'h', math.MinInt}, 0, "[0131.20.02]", 2},
		{[]int{'c', 'h', 1<<32 + 'a'}, 0, "[0131.20.02]", 2},
		{[]int{'c'}, 0, "[0110.20.02]", 1},
		{[]int{'c', 'H'}, 0, "[0110.20.02]", 1},
		{[]int{'c', -1}, 0, "[0110.20.02]", 1},
		{[]int{'c', 'h', 'a'}, 1, "[0138.20.02]", 1},
		{[]int{'c', 'h', 'a'}, 2, "[0100.20.02]", 1},
		{[]int{'a', 'c', 'h', 'a'}, 1, "[0132.20.02] [0133.20.02]", 3},
		{[]int{'d', 'z', 'z'}, 0, "[0134.20.02]", 3},
		{[]int{'d', 'z'}, 0, "[0118.20.02]", 1},
		{[]int{'d', 'z', 'a'}, 0, "[0118.20.02]", 1},
		{[]int{'h', 'h', 'h'}, 0, "[0137.20.02]", 2},
		{[]int{'h', 'h', 'h'}, 2, "[0138.20.02]", 1},
		{[]int{'x', 0x1100FF}, 0, "", 2},
		{[]int{0xAD, 'a'}, 0, "", 1},
		{[]int{'!', '!'}, 0, "[0135.20.02]", 2},
		{[]int{'!', '?'}, 0, "[fb00.20.02] [8021.20.02]", 1},
		{[]int{'!', '!', '!'}, 2, "[fb00.20.02] [8021.20.02]", 1},
		{[]int{0x1100C3, 0x1100A9}, 0, "[0136.20.02]", 2},
		{[]int{0, 0, 0}, 0, "[0138.20.02]", 2},
		{[]int{0}, 0, "[fb00.20.02] [8000.20.02]", 1},
		{[]int{0x4E00}, 0, "[fb00.20.02] [ce00.20.02]", 1},
		{[]int{last}, 0, "[fb22.20.02] [80ff.20.02]", 1},
	} {
		l, used := x.At(c.signs, c.at)
		if show(l) != c.l || used != c.used {
			t.Errorf("At(%x, %d) = %s, %d; want %s, %d", c.signs, c.at, show(l), used, c.l, c.used)
		}
		if l, used := want.at(c.signs, c.at); show(l) != c.l || used != c.used {
			t.Errorf("the plain At(%x, %d) = %s, %d", c.signs, c.at, show(l), used)
		}
	}
}

func TestAtOutside(t *testing.T) { // 5.2
	x, _ := czech(t)
	for _, signs := range [][]int{nil, {}, {'a'}, {'c', 'h'}, {'c', 'h', 'a'}} {
		for _, at := range []int{-1, -2, -3, len(signs), len(signs) + 1, len(signs) + 3, math.MinInt, math.MinInt + 1, math.MaxInt - 2, math.MaxInt - 1, math.MaxInt} {
			if l, used := x.At(signs, at); len(l) != 0 || used != 0 {
				t.Errorf("At(%x, %d) = %s, %d", signs, at, show(l), used)
			}
		}
	}
	// What is behind a list's end, in its spare room, does not count.
	room := []int{'c', 'h', 'a'}
	if l, used := x.At(room[:2], 0); show(l) != "[0131.20.02]" || used != 2 {
		t.Errorf("At of a list with spare room = %s, %d", show(l), used)
	}
	if l, used := x.At(room[:2], 2); len(l) != 0 || used != 0 {
		t.Errorf("At behind a list with spare room = %s, %d", show(l), used)
	}
	for _, c := range noSigns() {
		if l, used := x.At([]int{c, 'h'}, 0); len(l) != 0 || used != 1 {
			t.Errorf("At(%x) = %s, %d", c, show(l), used)
		}
	}
}

// lists holds all lists of at most n of the signs.
func lists(signs []int, n int) [][]int {
	all := [][]int{nil}
	for from := 0; n > 0; n-- {
		to := len(all)
		for _, l := range all[from:to] {
			for _, c := range signs {
				all = append(all, append(slices.Clone(l), c))
			}
		}
		from = to
	}
	return all
}

func TestAtOfAllShortLists(t *testing.T) { // 5.2, 5.4
	x, want := czech(t)
	for _, l := range lists([]int{'a', 'c', 'h', 'd', 'z', '!', 0, -1, 0x1100C3, 0x1100A9}, 4) {
		for at := range l {
			g, used := x.At(l, at)
			if w, wused := want.at(l, at); used != wused || !slices.Equal(g, w) {
				t.Fatalf("At(%x, %d) = %s, %d; want %s, %d", l, at, show(g), used, show(w), wused)
			}
		}
	}
}

func TestElements(t *testing.T) { // 5.2, 5.4
	x, want := czech(t)
	for text, want := range map[string]string{
		"":             "",
		"\u00ad\u00ad": "",
		"cha":          "[0132.20.02] [0133.20.02]",
		"chcha":        "[0131.20.02] [0132.20.02] [0133.20.02]",
		"ccha":         "[0110.20.02] [0132.20.02] [0133.20.02]",
		"chhh":         "[0131.20.02] [0137.20.02]",
		"c\u00adh":     "[0110.20.02] [0138.20.02]",
		"dz":           "[0118.20.02] [01c8.20.02]",
		"dzzz":         "[0134.20.02] [01c8.20.02]",
		"x\xffa":       "[0100.20.02]",
		"xx\xff":       "[01b8.20.02]",
		"\x00\x00\x00": "[0138.20.02] [fb00.20.02] [8000.20.02]",
		"a b":          "[0100.20.02] [*0010.20.02] [0108.20.02]",
		"Straße":       "[0190.20.08] [0198.20.02] [0188.20.02] [0100.20.02] [0190.20.04] [0190.20.04] [0120.20.02]",
	} {
		if got := show(x.Elements(text)); got != want {
			t.Errorf("Elements(%q) = %s; want %s", text, got, want)
		}
	}
	for _, l := range lists([]int{'c', 'h', 'a', 'd', 'z', 0xFF, 0xC3, 0xA9}, 5) {
		b := ""
		for _, c := range l {
			b += string([]byte{byte(c)})
		}
		if g, w := x.Elements(b), want.elements(b); !slices.Equal(g, w) {
			t.Fatalf("Elements(%q) = %s; want %s", b, show(g), show(w))
		}
	}
}

func TestElementsOfHostileBytes(t *testing.T) { // 5.2, 5.5
	for text, want := range map[string]string{
		"\xff":             "[fb22.20.02] [80ff.20.02]",
		"\x80":             "[fb22.20.02] [8080.20.02]",
		"a\xc3":            "[0100.20.02] [fb22.20.02] [80c3.20.02]",
		"\xa9\xc3":         "[fb22.20.02] [80a9.20.02] [fb22.20.02] [80c3.20.02]",
		"\xc3\xa9":         "[0120.20.02] [0000.24.02]",
		"\xc1\x81":         "[fb22.20.02] [80c1.20.02] [fb22.20.02] [8081.20.02]",
		"\xed\xa0\x80":     "[fb22.20.02] [80ed.20.02] [fb22.20.02] [80a0.20.02] [fb22.20.02] [8080.20.02]",
		"\xf4\x8f\xbf\xbf": "[fb21.20.02] [ffff.20.02]",
		"\xf4\x90\x80\x80": "[fb22.20.02] [80f4.20.02] [fb22.20.02] [8090.20.02] [fb22.20.02] [8080.20.02] [fb22.20.02] [8080.20.02]",
		"\xff\xffb":        "[fb22.20.02] [80ff.20.02] [fb22.20.02] [80ff.20.02] [0108.20.02]",
	} {
		if got := show(table.Root().Elements(text)); got != want {
			t.Errorf("Elements(%q) = %s; want %s", text, got, want)
		}
	}
	long := strings.Repeat("ch\xff\u00e9\u4e00", 20000)
	if got, want := table.Root().Elements(long), table.Root().Elements(long[:len(long)/20000]); len(got) != 20000*len(want) {
		t.Errorf("%d elements of 20000 times %d", len(got), len(want))
	}
}

func TestWith(t *testing.T) { // 5.3
	got, want := table.Root(), plain(rootEntries(t))
	for i, x := range []struct {
		seq []int
		l   string
	}{
		{[]int{'c', 'h'}, "[0131.20.02]"},
		{[]int{'c', 'h'}, "[0132.20.02] [0133.20.02]"}, // replaced
		{[]int{'a'}, "[0141.20.02]"},
		{[]int{'a'}, ""},
		{[]int{'a'}, "[0100.20.02]"},
		{[]int{0xAD}, "[0001.20.02]"},
		{[]int{'c', 'h', 'c'}, "[0134.20.02]"},
		{[]int{'c', 'h', 'c'}, ""},
		{[]int{'q', 'q', 'q'}, "[0001.01.01] [0002.01.01] [0003.01.01] [0004.01.01] [0005.01.01] [0006.01.01] [0007.01.01] [0008.01.01]"},
		{[]int{'q', 'q', 'q'}, "[0000.00.00]"},
		{[]int{'q', 'q', 'r'}, "[ffff.ff.7f]"}, // what is not Ok, and what is not sound, is taken
		{[]int{'q', 'q'}, "[*0000.00.00] [0001.00.00]"},
		{[]int{0}, "[0139.20.02]"},
		{[]int{last, last, last}, "[013a.20.02]"},
		{[]int{last}, "[013b.20.02]"},
		{[]int{0x1100C3, 0x1100A9}, "[013c.20.02]"}, // signs that no text has one behind the other
		{[]int{0x10FFFF, 0, 0xD7FF}, "[013d.20.02]"},
		{[]int{0xE000, 0x110080}, "[013e.20.02]"},
	} {
		old := got
		got, want = with(t, old, x.seq, x.l), want.with(x.seq, read(t, x.l))
		if got == old {
			t.Fatal("With answers the table itself")
		}
		agree(t, fmt.Sprint("step ", i), got, want)
	}
}

// wrongSeqs holds what is no entry's signs.
func wrongSeqs() [][]int {
	l := [][]int{nil, {}, {'a', 'b', 'c', 'd'}, {'c', 'h', 'a', 'c', 'h'}, make([]int, 1000)}
	for _, c := range noSigns() {
		l = append(l, []int{c}, []int{c, 'h'}, []int{'c', c}, []int{c, 'h', 'a'}, []int{'c', c, 'a'}, []int{'c', 'h', c}, []int{c, c, c}, []int{0x1100C3, 0x1100A9, c})
	}
	return l
}

func TestWithWrong(t *testing.T) { // 5.3
	x, want := czech(t)
	for _, seq := range wrongSeqs() {
		for _, l := range [][]elem.Elem{nil, make([]elem.Elem, 8)} {
			if got, e := x.With(seq, l); got != nil || e != api.ErrArg {
				t.Errorf("With(%x, %d elements) = %t, %d", seq, len(l), got != nil, e)
			}
		}
		if l, ok := x.Entry(seq); ok || l != nil {
			t.Errorf("Entry(%x) = %s, %t", seq, show(l), ok)
		}
	}
	for n := range 20 {
		got, e := x.With([]int{'q'}, make([]elem.Elem, n))
		if n <= 8 && (got == nil || e != api.OK) || n > 8 && (got != nil || e != api.ErrArg) {
			t.Errorf("With(q, %d elements) = %t, %d", n, got != nil, e)
		}
	}
	for _, c := range edges() {
		for _, seq := range [][]int{{c}, {c, 'h'}, {'c', c}, {c, c, c}} {
			if got, e := x.With(seq, nil); got == nil || e != api.OK {
				t.Errorf("With(%x) = %t, %d", seq, got != nil, e)
			}
		}
	}
	agree(t, "behind wrong ones", x, want)
}

// full has 500 entries.
func full(t *testing.T) (*table.Table, plain) {
	t.Helper()
	got, want := table.Root(), plain(rootEntries(t))
	for i := 0; len(want) < 500; i++ {
		seq := []int{'a' + i%26, 'a' + i/26%26, 0x5000 - i}[:i%3+1]
		if i%3 == 0 {
			seq[0] = 0x4E00 + i*50
		}
		l := []elem.Elem{elem.Elem(i<<16 | 0x2004)}
		next, e := got.With(seq, l)
		if e != api.OK {
			t.Fatalf("With(%x) of %d entries: %d", seq, len(want), e)
		}
		got, want = next, want.with(seq, l)
	}
	return got, want
}

func TestWithOfMany(t *testing.T) { // 5.3
	x, want := full(t)
	agree(t, "500 entries", x, want)
	if n := len(x.Entries()); n != 500 {
		t.Fatalf("%d entries", n)
	}
	for _, seq := range [][]int{{0x3000}, {'q', '!'}, {'q', '!', '!'}, {last}} {
		if got, e := x.With(seq, nil); got != nil || e != api.ErrMany {
			t.Errorf("With(%x) of 500 entries = %t, %d", seq, got != nil, e)
		}
	}
	for _, seq := range wrongSeqs() {
		if got, e := x.With(seq, nil); got != nil || e != api.ErrArg {
			t.Errorf("With(%x) of 500 entries = %t, %d", seq, got != nil, e)
		}
	}
	if got, e := x.With([]int{0x3000}, make([]elem.Elem, 9)); got != nil || e != api.ErrArg {
		t.Errorf("With of 9 elements, of 500 entries = %t, %d", got != nil, e)
	}
	// One that is there may be replaced still.
	for _, y := range want[120:150] {
		l := read(t, "[0777.20.02] [0778.20.02]")
		next, e := x.With(y.Seq, l)
		if e != api.OK {
			t.Fatalf("With(%x), which is there, of 500 entries: %d", y.Seq, e)
		}
		agree(t, "replaced", next, want.with(y.Seq, l))
	}
	agree(t, "500 entries, behind With", x, want)
}

func TestEntry(t *testing.T) { // 5.3
	x, _ := czech(t)
	for _, c := range []struct {
		seq []int
		l   string
		ok  bool
	}{
		{[]int{'c'}, "[0110.20.02]", true},
		{[]int{'c', 'h'}, "[0131.20.02]", true},
		{[]int{'c', 'h', 'a'}, "[0132.20.02] [0133.20.02]", true},
		{[]int{'d', 'z', 'z'}, "[0134.20.02]", true},
		{[]int{'x', last}, "", true},
		{[]int{0xAD}, "", true},
		{[]int{0, 0}, "[0138.20.02]", true},
		{[]int{'d', 'z'}, "", false},
		{[]int{'h', 'c'}, "", false},
		{[]int{'c', 'h', 'h'}, "", false},
		{[]int{'h', 'a'}, "", false},
		{[]int{0}, "", false},
		{[]int{0, 0, 0}, "", false},
		{[]int{last}, "", false},
		{[]int{0x4E00}, "", false},
		{[]int{'c', 'h', 'a', 'a'}, "", false},
	} {
		if l, ok := x.Entry(c.seq); show(l) != c.l || ok != c.ok || !ok && l != nil {
			t.Errorf("Entry(%x) = %s, %t; want %s, %t", c.seq, show(l), ok, c.l, c.ok)
		}
	}
}

func TestOrderOfEntries(t *testing.T) { // 5.3
	order := [][]int{{0}, {0, 'b'}, {0, 0, 0}, {'b'}, {'b', 0}, {'b', 'a'}, {'b', last}, {'b', 0, last}, {'b', 'a', 'a'}, {'b', 'a', 'b'}, {'b', 'b', 0}, {'b', last, 'a'}, {'c', 'a', 'a'}, {last, 0}, {last, 0, 0}}
	for shift := range order {
		got := table.Root()
		for i := range order {
			// Each seventh, so that no order is kept that the entries came in.
			got = with(t, got, order[(i*7+shift)%len(order)], "[0131.20.02]")
		}
		var seqs [][]int
		for _, x := range got.Entries() {
			if slices.ContainsFunc(order, func(seq []int) bool { return slices.Equal(x.Seq, seq) }) {
				seqs = append(seqs, x.Seq)
			}
		}
		if !slices.EqualFunc(seqs, order, slices.Equal) {
			t.Fatalf("Entries stand as %x; want %x", seqs, order)
		}
	}
}

func TestEntriesHangOnNoWay(t *testing.T) { // 5.3
	x, want := full(t)
	again := table.Root()
	for i := range want {
		// From the last to the first, and the first ones with other elements ahead.
		y := want[len(want)-1-i]
		if i < 20 {
			again = with(t, again, y.Seq, "[0001.20.02]")
			again = with(t, again, y.Seq, show(y.L))
			continue
		}
		again = with(t, again, y.Seq, show(y.L))
	}
	if told(x.Entries()) != told(again.Entries()) {
		t.Error("Entries hang on the way that they came")
	}
}

func TestMap(t *testing.T) { // 5.3, 5.4
	x, want := czech(t)
	fs := map[string]func(e elem.Elem) elem.Elem{
		"itself": func(e elem.Elem) elem.Elem { return e },
		"none":   func(e elem.Elem) elem.Elem { return 0 },
		"all":    func(e elem.Elem) elem.Elem { return ^e },
		"one more": func(e elem.Elem) elem.Elem {
			if e.Weight(1) > 0x110 {
				return e.With(1, e.Weight(1)+1)
			}
			return e
		},
	}
	for name, f := range fs {
		var moved plain
		for _, y := range want {
			var l []elem.Elem
			for _, e := range y.L {
				l = append(l, f(e))
			}
			moved = append(moved, table.Entry{Seq: y.Seq, L: l})
		}
		got := x.Map(f)
		if got == x {
			t.Fatal("Map answers the table itself")
		}
		agree(t, name, got, moved)
		for _, b := range []string{"chacha ch c h a", "dzz dz x\xff", "\u00c9\u00df!!!", "\x00\x00"} {
			if g, w := got.Elements(b), moved.elements(b); !slices.Equal(g, w) {
				t.Errorf("%s: Elements(%q) = %s; want %s", name, b, show(g), show(w))
			}
		}
		agree(t, "behind Map", x, want)
		// A table that Map gave is a table as any other.
		agree(t, "With behind Map", with(t, got, []int{'q', 'q'}, "[0131.20.02]"), moved.with([]int{'q', 'q'}, read(t, "[0131.20.02]")))
	}
}

// A function may tell its calls apart: it is asked of each element once, as Entries has them.
func TestMapInOrder(t *testing.T) { // 5.3
	x, _ := czech(t)
	var want []elem.Elem
	for _, y := range x.Entries() {
		want = append(want, y.L...)
	}
	var got []elem.Elem
	n := elem.Elem(0)
	moved := x.Map(func(e elem.Elem) elem.Elem {
		got = append(got, e)
		n++
		return n
	})
	if !slices.Equal(got, want) {
		t.Errorf("Map asked of\n%s\nnot of\n%s", show(got), show(want))
	}
	n = 0
	for _, y := range moved.Entries() {
		for _, e := range y.L {
			if n++; e != n {
				t.Fatalf("%x has element %d; want %d", y.Seq, e, n)
			}
		}
	}
}

func TestMapOfWrong(t *testing.T) { // 5.5
	x, want := czech(t)
	agree(t, "Map(nil)", x.Map(nil), want)
	agree(t, "Map of what panics", x.Map(func(e elem.Elem) elem.Elem { panic("no element") }), want)
	agree(t, "Map of what panics with nil", x.Map(func(e elem.Elem) elem.Elem { panic(nil) }), want)
	agree(t, "behind Map", x, want)
}

func TestCheck(t *testing.T) { // 5.3
	if e := table.Root().Check(); e != api.OK {
		t.Errorf("Check of Root = %d", e)
	}
	for _, c := range []struct {
		l string
		e api.Errno
	}{
		{"", api.OK},
		{"[0000.00.00]", api.OK},
		{"[0000.00.01]", api.OK},
		{"[0000.01.01]", api.OK},
		{"[0001.01.01]", api.OK},
		{"[*0001.01.01]", api.OK},
		{"[faff.ff.7f]", api.OK},
		{"[*faff.ff.7f] [0000.00.00]", api.OK},
		// An element that is not Ok.
		{"[0001.01.00]", api.ErrForm},
		{"[0001.00.01]", api.ErrForm},
		{"[0001.00.00]", api.ErrForm},
		{"[0000.01.00]", api.ErrForm},
		{"[*0000.00.00]", api.ErrForm},
		{"[*0000.01.01]", api.ErrForm},
		{"[0100.20.02] [0000.01.00]", api.ErrForm},
		{"[0100.20.02] [0100.20.02] [0100.20.02] [0100.20.02] [0100.20.02] [0100.20.02] [0100.20.02] [*0000.00.00]", api.ErrForm},
		// A first weight that Implicit's may have.
		{"[fb00.20.02]", api.ErrForm},
		{"[fb00.01.01]", api.ErrForm},
		{"[fb01.20.02]", api.ErrForm},
		{"[*fb00.20.02]", api.ErrForm},
		{"[ffff.ff.7f]", api.ErrForm},
		{"[0100.20.02] [fb00.20.02]", api.ErrForm},
		{"[0100.20.02] [0100.20.02] [0100.20.02] [0100.20.02] [0100.20.02] [0100.20.02] [0100.20.02] [fb00.20.02]", api.ErrForm},
	} {
		for _, seq := range [][]int{{'a'}, {'z'}, {0}, {last}, {'a', 'a'}, {0x327, last}} {
			bad := with(t, table.Root(), seq, c.l)
			if e := bad.Check(); e != c.e {
				t.Errorf("Check of %x %s = %d; want %d", seq, c.l, e, c.e)
			}
			if e := with(t, bad, seq, "[0131.20.02]").Check(); e != api.OK {
				t.Errorf("Check behind a replaced %x %s = %d", seq, c.l, e)
			}
		}
	}
}

func TestCheckOfBeginnings(t *testing.T) { // 5.3
	for _, c := range []struct {
		seqs [][]int
		e    api.Errno
	}{
		{[][]int{{'c', 'h'}}, api.OK},
		{[][]int{{'c', 'h'}, {'c', 'h', 'a'}}, api.OK},
		{[][]int{{'c', 'h', 'a'}, {'c', 'h'}}, api.OK},
		{[][]int{{'c', '!'}, {'c', '!', '!'}}, api.OK},
		{[][]int{{'!'}, {'!', '!'}, {'!', '!', '!'}}, api.OK},
		{[][]int{{0xAD, 'a'}}, api.OK},
		{[][]int{{'!', 'a'}}, api.ErrForm},
		{[][]int{{0, 0}}, api.ErrForm},
		{[][]int{{last, 'a'}}, api.ErrForm},
		{[][]int{{'c', 'h', 'a'}}, api.ErrForm},
		{[][]int{{'c', 'h'}, {'c', 'i', 'a'}}, api.ErrForm},
		{[][]int{{'h', 'a'}, {'c', 'h', 'a'}}, api.ErrForm},
		{[][]int{{'!', '!'}, {'!', '!', '!'}}, api.ErrForm},
		{[][]int{{'!'}, {'!', '!', '!'}}, api.ErrForm},
		{[][]int{{'!', '!', '!'}}, api.ErrForm},
	} {
		got := table.Root()
		for _, seq := range c.seqs {
			got = with(t, got, seq, "[0131.20.02]")
		}
		if e := got.Check(); e != c.e {
			t.Errorf("Check of Root with %x = %d; want %d", c.seqs, e, c.e)
		}
	}
}

func TestCheckBehindMap(t *testing.T) { // 5.3
	x := with(t, table.Root(), []int{'c', 'h'}, "[0131.20.02]")
	for w, want := range map[int]api.Errno{0xFAFF: api.OK, 0xFB00: api.ErrForm, 0xFFFF: api.ErrForm} {
		got := x.Map(func(e elem.Elem) elem.Elem {
			if e.Weight(1) == 0x131 {
				return e.With(1, w)
			}
			return e
		})
		if e := got.Check(); e != want {
			t.Errorf("Check with the first weight %x = %d; want %d", w, e, want)
		}
	}
	if e := x.Map(func(e elem.Elem) elem.Elem { return e.With(3, 0) }).Check(); e != api.ErrForm {
		t.Errorf("Check without third weights = %d", e)
	}
	if e := x.Map(func(e elem.Elem) elem.Elem { return 0 }).Check(); e != api.OK {
		t.Errorf("Check without weights = %d", e)
	}
}

func TestTablesStay(t *testing.T) { // 5.4
	got := table.Root()
	steps, texts := []*table.Table{got}, []string{told(got.Entries())}
	for i := range 60 {
		seq := [][]int{{'c', 'h'}, {'a'}, {0x4E00 + i}, {'c', 'h', 'a' + i%5}, {'a', 'a'}, {'c'}}[i%6]
		got = with(t, got, seq, fmt.Sprintf("[%04x.20.02]", 0x131+i))
		steps, texts = append(steps, got), append(texts, told(got.Entries()))
		got = got.Map(func(e elem.Elem) elem.Elem { return e ^ elem.Elem(i<<16) })
		steps, texts = append(steps, got), append(texts, told(got.Entries()))
	}
	for i, x := range steps {
		if told(x.Entries()) != texts[i] {
			t.Fatalf("the table of step %d was changed", i)
		}
	}
}

func TestNothingHandedInIsKept(t *testing.T) { // 5.5
	seq := []int{'c', 'h', 'a', 'b', 'c'}
	l := []elem.Elem{1 << 16, 2 << 16, 3 << 16, 4 << 16}
	got, e := table.Root().With(seq[:2], l[:2])
	if e != api.OK {
		t.Fatal(e)
	}
	if !slices.Equal(seq, []int{'c', 'h', 'a', 'b', 'c'}) || !slices.Equal(l, []elem.Elem{1 << 16, 2 << 16, 3 << 16, 4 << 16}) {
		t.Errorf("With changed what it was handed: %x, %x", seq, l)
	}
	want := plain(rootEntries(t)).with([]int{'c', 'h'}, []elem.Elem{1 << 16, 2 << 16})
	for i := range seq {
		seq[i] = 'z'
	}
	for i := range l {
		l[i] = 99
	}
	agree(t, "behind a change of what was handed in", got, want)
	signs := []int{'c', 'h', 'a', 'c', 'h'}
	got.At(signs[:3], 0)
	got.Entry(signs[:2])
	if !slices.Equal(signs, []int{'c', 'h', 'a', 'c', 'h'}) {
		t.Errorf("what was handed in was changed: %x", signs)
	}
}

// spoil writes over a list and its spare room.
func spoil[T any](l []T, v T) {
	l = l[:cap(l)]
	for i := range l {
		l[i] = v
	}
}

func TestAnswersAreNewMemory(t *testing.T) { // 5.3, 5.5
	x, want := czech(t)
	first, second := x.Entries(), x.Entries()
	for _, y := range first {
		spoil(y.Seq, 'q')
		spoil(y.L, 99)
	}
	spoil(first, table.Entry{})
	if told(second) != told(want.entries()) {
		t.Error("two answers of Entries share memory")
	}
	agree(t, "behind a change of Entries", x, want)
	for i, y := range second {
		spoil(y.Seq, 'q')
		spoil(y.L, 99)
		if i+1 < len(second) && told(second[i+1:]) != told(want.entries()[i+1:]) {
			t.Fatal("lists of one answer share memory")
		}
	}
	for _, y := range want {
		l, _ := x.Entry(y.Seq)
		spoil(l, 99)
		l, _ = x.At(y.Seq, 0)
		spoil(l, 99)
		if b, e := utext.Bytes(y.Seq); e == api.OK {
			spoil(x.Elements(b), 99)
		}
	}
	spoil(table.Implicit(0x4E00), 99)
	spoil(x.Elements("\u4e00"), 99)
	agree(t, "behind a change of Entry, At and Elements", x, want)
	spoilRoot := table.Root().Entries()
	for _, y := range spoilRoot {
		spoil(y.L, 99)
	}
	agree(t, "Root", table.Root(), rootEntries(t))
}

func TestNoPanic(t *testing.T) { // 5.5
	x, want := czech(t)
	numbers := append(append(noSigns(), edges()...), 'c', 'h', 'a', 0xAD)
	for _, a := range numbers {
		for _, b := range numbers {
			for _, l := range [][]int{{a}, {a, b}, {b, a, 'h'}, {a, b, a, b}} {
				x.Entry(l)
				for at := range l {
					g, used := x.At(l, at)
					if w, wused := want.at(l, at); used != wused || !slices.Equal(g, w) {
						t.Fatalf("At(%x, %d) = %s, %d; want %s, %d", l, at, show(g), used, show(w), wused)
					}
				}
			}
			x.At([]int{a}, b)
		}
	}
}
