package utext_test

import (
	"math"
	"slices"
	"strings"
	"testing"
	"unicode/utf8"

	"umlaut/api"
	"umlaut/utext"
)

// edges holds the first and the last byte of each part that a byte may have in UTF-8, with their neighbours.
const edges = "\x00A\x7f\x80\x8f\x90\x9f\xa0\xbf\xc0\xc1\xc2\xc3\xdf\xe0\xe1\xec\xed\xee\xef\xf0\xf1\xf3\xf4\xf5\xf7\xf8\xfe\xff"

// texts calls f with every text of at most n of the bytes of alphabet.
func texts(alphabet string, n int, f func(b string)) {
	var grow func(b []byte)
	grow = func(b []byte) {
		f(string(b))
		if len(b) == n {
			return
		}
		for i := range len(alphabet) {
			grow(append(b, alphabet[i]))
		}
	}
	grow(make([]byte, 0, n))
}

// plainSigns leans on the library's own decoder, which the package does without.
func plainSigns(b string) []int {
	var l []int
	for len(b) > 0 {
		r, size := utf8.DecodeRuneInString(b)
		c := int(r)
		if r == utf8.RuneError && size == 1 {
			c = 0x110000 + int(b[0])
		}
		l = append(l, c)
		b = b[size:]
	}
	return l
}

// plainBytes is the text of l one sign behind the other, whatever their bytes mean together.
func plainBytes(l []int) string {
	var b []byte
	for _, c := range l {
		if c > 0x10FFFF {
			b = append(b, byte(c-0x110000))
		} else {
			b = utf8.AppendRune(b, rune(c))
		}
	}
	return string(b)
}

// reads holds what Signs, Count, Valid and Bytes say of b against the plain reading.
func reads(t *testing.T, b string) {
	t.Helper()
	want := plainSigns(b)
	if l := utext.Signs(b); !slices.Equal(l, want) {
		t.Fatalf("Signs(%x) = %x; want %x", b, l, want)
	}
	if n := utext.Count(b); n != len(want) {
		t.Fatalf("Count(%x) = %d; want %d", b, n, len(want))
	}
	if v := utext.Valid(b); v != utf8.ValidString(b) {
		t.Fatalf("Valid(%x) = %t", b, v)
	}
	if back, e := utext.Bytes(want); back != b || e != api.OK {
		t.Fatalf("Bytes(%x) = %x, %d; want %x", want, back, e, b)
	}
}

func TestSigns(t *testing.T) { // 2.1
	for _, x := range []struct {
		b     string
		want  []int
		valid bool
	}{
		{"", nil, true},
		{"abc", []int{0x61, 0x62, 0x63}, true},
		{"\x00", []int{0}, true},
		{"\x61\xc3\xa9\xff", []int{97, 233, 0x1100FF}, false},
		// The first and the last sign of each length.
		{"\x7f", []int{0x7F}, true},
		{"\xc2\x80\xdf\xbf", []int{0x80, 0x7FF}, true},
		{"\xe0\xa0\x80\xef\xbf\xbf", []int{0x800, 0xFFFF}, true},
		{"\xf0\x90\x80\x80\xf4\x8f\xbf\xbf", []int{0x10000, 0x10FFFF}, true},
		// The sign that decoders answer for a fault is a sign like others.
		{"\xef\xbf\xbd", []int{0xFFFD}, true},
		// What is not the shortest form.
		{"\xc0\x80", []int{0x1100C0, 0x110080}, false},
		{"\xc1\xbf", []int{0x1100C1, 0x1100BF}, false},
		{"\xe0\x9f\xbf", []int{0x1100E0, 0x11009F, 0x1100BF}, false},
		{"\xf0\x8f\xbf\xbf", []int{0x1100F0, 0x11008F, 0x1100BF, 0x1100BF}, false},
		// Surrogates and their neighbours.
		{"\xed\x9f\xbf\xee\x80\x80", []int{0xD7FF, 0xE000}, true},
		{"\xed\xa0\x80", []int{0x1100ED, 0x1100A0, 0x110080}, false},
		{"\xed\xbf\xbf", []int{0x1100ED, 0x1100BF, 0x1100BF}, false},
		// Above 0x10FFFF, and leads that UTF-8 has not.
		{"\xf4\x90\x80\x80", []int{0x1100F4, 0x110090, 0x110080, 0x110080}, false},
		{"\xf5\x80\x80\x80", []int{0x1100F5, 0x110080, 0x110080, 0x110080}, false},
		{"\xf8\x88\x80\x80\x80", []int{0x1100F8, 0x110088, 0x110080, 0x110080, 0x110080}, false},
		{"\x80\xbf\xfe", []int{0x110080, 0x1100BF, 0x1100FE}, false},
		// Cut off at the end, and by another sign: the other is read.
		{"\xc3", []int{0x1100C3}, false},
		{"\xe2\x82", []int{0x1100E2, 0x110082}, false},
		{"\xf0\x9f\x98", []int{0x1100F0, 0x11009F, 0x110098}, false},
		{"\xc3\xc3\xa9", []int{0x1100C3, 0xE9}, false},
		{"\xe2\x82\xc3\xa9\x61", []int{0x1100E2, 0x110082, 0xE9, 0x61}, false},
		{"\xf0\x9f\x98\xe2\x82\xac", []int{0x1100F0, 0x11009F, 0x110098, 0x20AC}, false},
		{"\xc3\xa9\xa9", []int{0xE9, 0x1100A9}, false},
	} {
		if l := utext.Signs(x.b); !slices.Equal(l, x.want) {
			t.Errorf("Signs(%x) = %x; want %x", x.b, l, x.want)
		}
		if n := utext.Count(x.b); n != len(x.want) {
			t.Errorf("Count(%x) = %d; want %d", x.b, n, len(x.want))
		}
		if v := utext.Valid(x.b); v != x.valid {
			t.Errorf("Valid(%x) = %t", x.b, v)
		}
	}
}

func TestEveryCodePoint(t *testing.T) { // 2.1, 2.3
	for c := range 0x110000 {
		if c >= 0xD800 && c <= 0xDFFF {
			continue
		}
		b := string(rune(c))
		if l := utext.Signs(b); len(l) != 1 || l[0] != c {
			t.Fatalf("Signs(%x) = %x; want %x", b, l, c)
		}
		if back, e := utext.Bytes([]int{c}); back != b || e != api.OK {
			t.Fatalf("Bytes(%x) = %x, %d; want %x", c, back, e, b)
		}
		if !utext.Valid(b) || utext.Count(b) != 1 {
			t.Fatalf("%x: Valid %t, Count %d", b, utext.Valid(b), utext.Count(b))
		}
	}
}

func TestHostileTexts(t *testing.T) { // 2.1, 2.3
	var bytes strings.Builder
	for x := range 256 {
		bytes.WriteByte(byte(x))
	}
	texts(bytes.String(), 2, func(b string) { reads(t, b) })
	texts(edges, 4, func(b string) { reads(t, b) })
	texts("a\x80\x90\xbf\xc3\xe0\xf0", 6, func(b string) { reads(t, b) })
}

func TestBytes(t *testing.T) { // 2.1
	for _, x := range []struct {
		l    []int
		want string
		e    api.Errno
	}{
		{nil, "", api.OK},
		{[]int{}, "", api.OK},
		{[]int{0x61, 0xE9, 0x1100FF}, "\x61\xc3\xa9\xff", api.OK},
		{[]int{0, 0x7F, 0x80, 0x7FF, 0x800, 0xFFFF, 0x10000, 0x10FFFF}, "\x00\x7f\xc2\x80\xdf\xbf\xe0\xa0\x80\xef\xbf\xbf\xf0\x90\x80\x80\xf4\x8f\xbf\xbf", api.OK},
		{[]int{0xD7FF, 0xE000}, "\xed\x9f\xbf\xee\x80\x80", api.OK},
		{[]int{0x110080}, "\x80", api.OK},
		{[]int{0x1100C3}, "\xc3", api.OK},
		{[]int{0x1100A9, 0x1100C3}, "\xa9\xc3", api.OK},
		{[]int{0x1100C3, 0xE9}, "\xc3\xc3\xa9", api.OK},
		{[]int{0x1100C0, 0x110080}, "\xc0\x80", api.OK},
		{[]int{0x1100ED, 0x1100A0, 0x110080}, "\xed\xa0\x80", api.OK},
		{[]int{0x1100F4, 0x110090, 0x110080, 0x110080}, "\xf4\x90\x80\x80", api.OK},
		// No signs.
		{[]int{-1}, "", api.ErrArg},
		{[]int{math.MinInt}, "", api.ErrArg},
		{[]int{-0x80}, "", api.ErrArg},
		{[]int{0xD800}, "", api.ErrArg},
		{[]int{0xDFFF}, "", api.ErrArg},
		{[]int{0x110000}, "", api.ErrArg},
		{[]int{0x110041}, "", api.ErrArg},
		{[]int{0x11007F}, "", api.ErrArg},
		{[]int{0x110100}, "", api.ErrArg},
		{[]int{0x110180}, "", api.ErrArg},
		{[]int{math.MaxInt}, "", api.ErrArg},
		{[]int{1<<32 + 0x41}, "", api.ErrArg},
		{[]int{0x61, 0x62, -1}, "", api.ErrArg},
		// Bytes that mean another sign together.
		{[]int{0x1100C3, 0x1100A9}, "", api.ErrForm},
		{[]int{0x61, 0x1100C3, 0x1100A9, 0x62}, "", api.ErrForm},
		{[]int{0x1100E2, 0x110082, 0x1100AC}, "", api.ErrForm},
		{[]int{0x1100F0, 0x11009F, 0x110098, 0x110080}, "", api.ErrForm},
		// What is no sign comes first, wherever it stands.
		{[]int{0x1100C3, 0x1100A9, -1}, "", api.ErrArg},
		{[]int{0xD800, 0x1100C3, 0x1100A9}, "", api.ErrArg},
	} {
		if b, e := utext.Bytes(x.l); b != x.want || e != x.e {
			t.Errorf("Bytes(%x) = %x, %d; want %x, %d", x.l, b, e, x.want, x.e)
		}
	}
}

// lists calls f with every list of at most n of the numbers of alphabet.
func lists(alphabet []int, n int, f func(l []int)) {
	var grow func(l []int)
	grow = func(l []int) {
		f(l)
		if len(l) == n {
			return
		}
		for _, c := range alphabet {
			grow(append(l, c))
		}
	}
	grow(make([]int, 0, n))
}

func isNoSign(c int) bool {
	return c < 0 || c > 0xD7FF && c < 0xE000 || c > 0x10FFFF && c < 0x110080 || c > 0x1100FF
}

func TestBytesOfLists(t *testing.T) { // 2.1
	alphabet := []int{-1, 0x41, 0x80, 0xE9, 0x800, 0xD800, 0x10000, 0x11007F,
		0x110080, 0x110090, 0x1100A0, 0x1100BF, 0x1100C1, 0x1100C3, 0x1100E0, 0x1100ED, 0x1100F0, 0x1100F4, 0x1100FF, 0x110100}
	lists(alphabet, 4, func(l []int) {
		want, wantE := plainBytes(l), api.OK
		if slices.ContainsFunc(l, isNoSign) {
			want, wantE = "", api.ErrArg
		} else if !slices.Equal(plainSigns(want), l) {
			want, wantE = "", api.ErrForm
		}
		if b, e := utext.Bytes(l); b != want || e != wantE {
			t.Fatalf("Bytes(%x) = %x, %d; want %x, %d", l, b, e, want, wantE)
		}
	})
}

func TestBytesOfEverySign(t *testing.T) { // 2.1
	for c := -0x200; c <= 0x110400; c++ {
		b, e := utext.Bytes([]int{c})
		switch {
		case isNoSign(c) && (b != "" || e != api.ErrArg):
			t.Fatalf("Bytes(%x) = %x, %d; want an error", c, b, e)
		case !isNoSign(c) && (b != plainBytes([]int{c}) || e != api.OK):
			t.Fatalf("Bytes(%x) = %x, %d", c, b, e)
		}
	}
}

func TestBytesLeavesItsList(t *testing.T) { // 2.1
	room := []int{0x61, 0xE9, 7, 8}
	if b, e := utext.Bytes(room[:2]); b != "a\u00e9" || e != api.OK {
		t.Errorf("Bytes = %x, %d", b, e)
	}
	if !slices.Equal(room, []int{0x61, 0xE9, 7, 8}) {
		t.Errorf("Bytes left %x", room)
	}
}

func TestSignsAreNewMemory(t *testing.T) { // 2.1
	first := utext.Signs("a\u00e9\xff")
	clear(first[:cap(first)])
	if l := utext.Signs("a\u00e9\xff"); !slices.Equal(l, []int{0x61, 0xE9, 0x1100FF}) {
		t.Errorf("Signs = %x", l)
	}
}

func TestBegin(t *testing.T) { // 2.1
	const mixed = "a\u00e9\xff\u20ac\U0001f600\xe2\x82"
	for _, x := range []struct {
		b    string
		n    int
		want string
	}{
		{"", 0, ""}, {"", 1, ""}, {"", -1, ""}, {"", math.MaxInt, ""},
		{"abc", 0, ""}, {"abc", 1, "a"}, {"abc", 2, "ab"}, {"abc", 3, "abc"}, {"abc", 4, "abc"},
		{"abc", -1, ""}, {"abc", math.MinInt, ""}, {"abc", math.MaxInt, "abc"},
		{mixed, 1, "a"}, {mixed, 2, "a\u00e9"}, {mixed, 3, "a\u00e9\xff"}, {mixed, 4, "a\u00e9\xff\u20ac"},
		{mixed, 5, "a\u00e9\xff\u20ac\U0001f600"}, {mixed, 6, "a\u00e9\xff\u20ac\U0001f600\xe2"}, {mixed, 7, mixed}, {mixed, 8, mixed},
		{"\xc3\xc3\xa9", 1, "\xc3"}, {"\xc3\xc3\xa9", 2, "\xc3\xc3\xa9"},
	} {
		if b := utext.Begin(x.b, x.n); b != x.want {
			t.Errorf("Begin(%x, %d) = %x; want %x", x.b, x.n, b, x.want)
		}
	}
}

func TestBeginOfHostileTexts(t *testing.T) { // 2.1
	texts("a\x80\xa9\xc3\xe2\xf0\xff", 5, func(b string) {
		l := plainSigns(b)
		for n := -2; n <= len(l)+2; n++ {
			want := plainBytes(l[:max(0, min(n, len(l)))])
			if got := utext.Begin(b, n); got != want {
				t.Fatalf("Begin(%x, %d) = %x; want %x", b, n, got, want)
			}
		}
	})
}

func TestFold(t *testing.T) { // 2.2
	// The edges of each range, what it leaves out, and their neighbours.
	for c, want := range map[int]int{
		0x40: 0x40, 0x41: 0x61, 0x5A: 0x7A, 0x5B: 0x5B, 0x61: 0x61, 0x7A: 0x7A,
		0xBF: 0xBF, 0xC0: 0xE0, 0xD6: 0xF6, 0xD7: 0xD7, 0xD8: 0xF8, 0xDE: 0xFE, 0xDF: 0xDF, 0xE0: 0xE0, 0xF7: 0xF7,
		0x390: 0x390, 0x391: 0x3B1, 0x3A1: 0x3C1, 0x3A2: 0x3A2, 0x3A3: 0x3C3, 0x3A9: 0x3C9, 0x3AA: 0x3AA, 0x3B1: 0x3B1,
		0x3FF: 0x3FF, 0x400: 0x450, 0x40F: 0x45F, 0x410: 0x430, 0x42F: 0x44F, 0x430: 0x430, 0x450: 0x450,
		0x100: 0x100, 0x130: 0x130, 0x1E9E: 0x1E9E, 0x10400: 0x10400, 0xFF21: 0xFF21,
		0: 0, -1: -1, -0x41: -0x41, math.MinInt: math.MinInt, math.MaxInt: math.MaxInt,
		0xD800: 0xD800, 0x110041: 0x110041, 0x1100C0: 0x1100C0, 1<<32 + 0x41: 1<<32 + 0x41,
	} {
		if f := utext.Fold(c); f != want {
			t.Errorf("Fold(%x) = %x; want %x", c, f, want)
		}
	}
}

// raised is how much more Fold answers: the ranges as the chapter tells them, sign by sign.
func raised() map[int]int {
	by := map[int]int{}
	for _, x := range [][3]int{{0x41, 0x5A, 32}, {0xC0, 0xDE, 32}, {0x391, 0x3A9, 32}, {0x410, 0x42F, 32}, {0x400, 0x40F, 80}} {
		for c := x[0]; c <= x[1]; c++ {
			by[c] = x[2]
		}
	}
	delete(by, 0xD7)
	delete(by, 0x3A2)
	return by
}

func TestFoldOfEverySign(t *testing.T) { // 2.2
	by := raised()
	for c := -0x500; c <= 0x110500; c++ {
		if f := utext.Fold(c); f != c+by[c] {
			t.Fatalf("Fold(%x) = %x; want %x", c, f, c+by[c])
		}
	}
}

func TestFoldText(t *testing.T) { // 2.2
	for b, want := range map[string]string{
		"":                             "",
		"abc":                          "abc",
		"ABC xyz 09 @[`{":              "abc xyz 09 @[`{",
		"\u00c0\u00d7\u00de\u00df":     "\u00e0\u00d7\u00fe\u00df",
		"\u0391\u03a2\u03a3\u03c2":     "\u03b1\u03a2\u03c3\u03c2",
		"\u0400\u040f\u0410\u042f":     "\u0450\u045f\u0430\u044f",
		"\U0001f600A\u20acB\U00010400": "\U0001f600a\u20acb\U00010400",
		// Bytes that begin no code point stay, whatever letter has their number.
		"\xc0A\xff":            "\xc0a\xff",
		"\xc3":                 "\xc3",
		"\xc3A\xc3\x84":        "\xc3a\xc3\xa4",
		"\xe2\x82\xc3\x84":     "\xe2\x82\xc3\xa4",
		"\xed\xa0\x80Z":        "\xed\xa0\x80z",
		"\xe0\x81\x81\xc1A":    "\xe0\x81\x81\xc1a",
		"\xf4\x90\x80\x80\xce": "\xf4\x90\x80\x80\xce",
	} {
		if f := utext.FoldText(b); f != want {
			t.Errorf("FoldText(%x) = %x; want %x", b, f, want)
		}
	}
}

func TestFoldTextTwice(t *testing.T) { // 2.2, 2.3
	by := raised()
	judge := func(b string) {
		l := plainSigns(b)
		for i := range l {
			l[i] += by[l[i]]
		}
		once := utext.FoldText(b)
		if want := plainBytes(l); once != want {
			t.Fatalf("FoldText(%x) = %x; want %x", b, once, want)
		}
		if twice := utext.FoldText(once); twice != once {
			t.Fatalf("FoldText(FoldText(%x)) = %x; once it is %x", b, twice, once)
		}
	}
	for c := range 0x110000 {
		judge(string(rune(c)))
	}
	texts(edges, 3, judge)
	texts("Aa\x80\x91\xc0\xc3\xce\xe0", 5, judge)
}

func TestNext(t *testing.T) { // 2.2
	for _, x := range []struct {
		p, want string
		ok      bool
	}{
		{"a", "b", true}, {"ab", "ac", true}, {"\x00", "\x01", true}, {"a\x00", "a\x01", true},
		{"\x7f", "\x80", true}, {"\xfe", "\xff", true}, {"a\xfe", "a\xff", true},
		{"a\xff", "b", true}, {"ab\xff\xff", "ac", true}, {"\xfe\xff\xff", "\xff", true}, {"\xffa", "\xffb", true}, {"\xffa\xff", "\xffb", true},
		{"\u00e9", "\xc3\xaa", true}, {"\xc3\xbf", "\xc3\xc0", true}, {"\U0010ffff", "\xf4\x8f\xbf\xc0", true},
		{"", "", false}, {"\xff", "", false}, {"\xff\xff\xff", "", false},
	} {
		if n, ok := utext.Next(x.p); n != x.want || ok != x.ok {
			t.Errorf("Next(%x) = %x, %t; want %x, %t", x.p, n, ok, x.want, x.ok)
		}
	}
}

// From p on, just what begins with p stands below Next(p).
func TestNextBoundsWhatBegins(t *testing.T) { // 2.2
	var all []string
	texts("\x00\x01a\xfe\xff", 4, func(b string) { all = append(all, b) })
	for _, p := range all {
		next, ok := utext.Next(p)
		if !ok && next != "" {
			t.Fatalf("Next(%x) = %x, false", p, next)
		}
		for _, b := range all {
			if b >= p && (!ok || b < next) != strings.HasPrefix(b, p) {
				t.Fatalf("Next(%x) = %x, %t, but of %x", p, next, ok, b)
			}
		}
	}
}

func TestThereAndBack(t *testing.T) { // 2.3
	for _, b := range []string{
		"", "abc", "na\u00efve \u03a3\u03c2 \u042f \u20ac \U0001f600", "\x61\xc3\xa9\xff", "\xc3", "\xc0\x80", "\xed\xa0\x80\xed\xb0\x80",
		edges, strings.Repeat("\xe2\x82", 5000), strings.Repeat("\xf0\x9f\x98\x80\xf0\x9f", 5000), strings.Repeat("\xff", 5000),
	} {
		if back, e := utext.Bytes(utext.Signs(b)); back != b || e != api.OK {
			t.Errorf("Bytes(Signs(%.20x)) = %.20x, %d", b, back, e)
		}
		if once := utext.FoldText(b); utext.FoldText(once) != once {
			t.Errorf("FoldText(FoldText(%.20x)) = %.20x", b, utext.FoldText(once))
		}
	}
}

func TestNoPanic(t *testing.T) { // 2.4
	defer func() {
		if p := recover(); p != nil {
			t.Fatal(p)
		}
	}()
	numbers := []int{math.MinInt, math.MinInt32, -1, 0, 1, 4, 0xD800, 0x110000, 0x1100FF, 0x110100, math.MaxInt32, math.MaxInt}
	texts(edges, 3, func(b string) {
		utext.Bytes(utext.Signs(b))
		utext.Valid(b)
		utext.Count(b)
		utext.FoldText(b)
		utext.Next(b)
		for _, n := range numbers {
			utext.Begin(b, n)
		}
	})
	for _, c := range numbers {
		utext.Fold(c)
	}
	lists(numbers, 3, func(l []int) { utext.Bytes(l) })
}
