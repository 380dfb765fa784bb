package elem_test

import (
	"fmt"
	"math"
	"regexp"
	"strconv"
	"strings"
	"testing"

	"umlaut/api"
	"umlaut/elem"
)

// greatest is the greatest weight of each level, from level 1 on.
var greatest = []int{65535, 255, 127}

// weights holds weights of a level: its edges, with one bit and with several, all in bounds.
func weights(level int) []int {
	most := greatest[level-1]
	l := []int{0, 3, 0x2A, most/3 + 1, most - 1}
	for w := 1; w <= most; w *= 2 {
		l = append(l, w, most-w)
	}
	return append(l, most)
}

// beyond holds weights that are out of the bounds of a level.
func beyond(level int) []int {
	most := greatest[level-1]
	return []int{-1, -2, -most, -most - 1, most + 1, most + 2, 2*most + 1, 1 << 16, 1<<16 + 32, 1<<31 + 1, 1<<32 + 1, math.MinInt32, math.MinInt, math.MinInt + 1, math.MaxInt32, math.MaxInt}
}

// levels holds levels that are none.
func levels() []int {
	return []int{0, -1, -2, -3, 4, 5, 7, 8, 16, 31, 32, 33, 64, 1 << 8, 1<<32 + 1, math.MinInt, math.MinInt + 1, math.MaxInt - 1, math.MaxInt}
}

// each calls f with an element of every weight of weights, variable and not, and with its parts.
func each(f func(e elem.Elem, p, s, t int, v bool)) {
	for _, p := range weights(1) {
		for _, s := range weights(2) {
			for _, t := range weights(3) {
				for i, v := range []bool{false, true} {
					// Products, where the package shifts.
					f(elem.Elem(p*65536+s*256+t*2+i), p, s, t, v)
				}
			}
		}
	}
}

func TestMake(t *testing.T) { // 3.1
	each(func(want elem.Elem, p, s, th int, v bool) {
		if e, err := elem.Make(p, s, th, v); e != want || err != api.OK {
			t.Fatalf("Make(%d, %d, %d, %t) = %08x, %d; want %08x", p, s, th, v, uint32(e), err, uint32(want))
		}
	})
}

func TestMakeByHand(t *testing.T) { // 3.1
	for _, x := range []struct {
		p, s, t int
		v       bool
		want    elem.Elem
		e       api.Errno
	}{
		{256, 32, 2, false, 0x01002004, api.OK},
		{256, 32, 2, true, 0x01002005, api.OK},
		{0x10, 0x20, 2, true, 0x00102005, api.OK},
		{0, 0, 0, false, 0, api.OK},
		{1, 1, 1, false, 0x00010102, api.OK},
		{65535, 255, 127, true, 0xFFFFFFFF, api.OK},
		{65535, 255, 127, false, 0xFFFFFFFE, api.OK},
		{65535, 0, 0, false, 0xFFFF0000, api.OK},
		{0, 255, 0, false, 0x0000FF00, api.OK},
		{0, 0, 127, false, 0x000000FE, api.OK},
		// What is not Ok is made too.
		{0, 0, 0, true, 1, api.OK},
		{1, 0, 0, true, 0x00010001, api.OK},
		{0, 1, 0, false, 0x00000100, api.OK},
		// One beyond.
		{65536, 32, 2, false, 0, api.ErrArg},
		{-1, 32, 2, false, 0, api.ErrArg},
		{256, 256, 2, false, 0, api.ErrArg},
		{256, -1, 2, true, 0, api.ErrArg},
		{256, 32, 128, false, 0, api.ErrArg},
		{256, 32, -1, true, 0, api.ErrArg},
		{65536, 256, 128, true, 0, api.ErrArg},
		{-1, -1, -1, true, 0, api.ErrArg},
	} {
		if e, err := elem.Make(x.p, x.s, x.t, x.v); e != x.want || err != x.e {
			t.Errorf("Make(%d, %d, %d, %t) = %08x, %d; want %08x, %d", x.p, x.s, x.t, x.v, uint32(e), err, uint32(x.want), x.e)
		}
	}
}

func TestMakeOutOfBounds(t *testing.T) { // 3.1
	for level := 1; level <= 3; level++ {
		for _, w := range beyond(level) {
			each(func(_ elem.Elem, p, s, th int, v bool) {
				l := []int{p, s, th}
				l[level-1] = w
				if e, err := elem.Make(l[0], l[1], l[2], v); e != 0 || err != api.ErrArg {
					t.Fatalf("Make(%d, %t) = %08x, %d; want an error", l, v, uint32(e), err)
				}
			})
		}
	}
}

func TestWeightAndVariable(t *testing.T) { // 3.1
	each(func(e elem.Elem, p, s, th int, v bool) {
		for i, want := range []int{p, s, th} {
			if w := e.Weight(i + 1); w != want {
				t.Fatalf("Weight(%d) of %08x = %d; want %d", i+1, uint32(e), w, want)
			}
		}
		if e.Variable() != v {
			t.Fatalf("Variable of %08x = %t", uint32(e), e.Variable())
		}
		for _, level := range levels() {
			if w := e.Weight(level); w != 0 {
				t.Fatalf("Weight(%d) of %08x = %d; want 0", level, uint32(e), w)
			}
		}
	})
}

func TestWith(t *testing.T) { // 3.1
	each(func(e elem.Elem, p, s, th int, v bool) {
		for level := 1; level <= 3; level++ {
			for _, w := range append(weights(level), beyond(level)...) {
				l := []int{p, s, th}
				span := greatest[level-1] + 1
				l[level-1] = (w%span + span) % span
				want := elem.Elem(l[0]*65536 + l[1]*256 + l[2]*2)
				if v {
					want++
				}
				if got := e.With(level, w); got != want {
					t.Fatalf("%08x With(%d, %d) = %08x; want %08x", uint32(e), level, w, uint32(got), uint32(want))
				}
			}
		}
	})
}

func TestWithOfNoLevel(t *testing.T) { // 3.1
	each(func(e elem.Elem, _, _, _ int, _ bool) {
		for _, level := range levels() {
			for _, w := range []int{0, 1, 127, 65535, -1, math.MinInt, math.MaxInt} {
				if got := e.With(level, w); got != e {
					t.Fatalf("%08x With(%d, %d) = %08x", uint32(e), level, w, uint32(got))
				}
			}
		}
	})
}

func TestWithByHand(t *testing.T) { // 3.1
	const e elem.Elem = 0x01002005
	for _, x := range []struct {
		level, w int
		want     elem.Elem
	}{
		{1, 0, 0x00002005}, {1, 0xABCD, 0xABCD2005}, {1, 65535, 0xFFFF2005}, {1, 65536, 0x00002005}, {1, 65537, 0x00012005}, {1, -1, 0xFFFF2005}, {1, -65536, 0x00002005},
		{2, 0, 0x01000005}, {2, 0xAB, 0x0100AB05}, {2, 255, 0x0100FF05}, {2, 256, 0x01000005}, {2, 257, 0x01000105}, {2, -1, 0x0100FF05}, {2, -255, 0x01000105},
		{3, 0, 0x01002001}, {3, 0x4A, 0x01002095}, {3, 127, 0x010020FF}, {3, 128, 0x01002001}, {3, 129, 0x01002003}, {3, -1, 0x010020FF}, {3, -128, 0x01002001},
		{0, 5, e}, {4, 5, e}, {-1, 5, e},
	} {
		if got := e.With(x.level, x.w); got != x.want {
			t.Errorf("With(%d, %d) = %08x; want %08x", x.level, x.w, uint32(got), uint32(x.want))
		}
	}
}

func TestOk(t *testing.T) { // 3.1
	each(func(e elem.Elem, p, s, th int, v bool) {
		want := true
		if p != 0 && (s == 0 || th == 0) {
			want = false
		}
		if s != 0 && th == 0 {
			want = false
		}
		if v && p == 0 {
			want = false
		}
		if e.Ok() != want {
			t.Fatalf("Ok of %08x = %t", uint32(e), e.Ok())
		}
	})
}

func TestOkByHand(t *testing.T) { // 3.1
	for e, want := range map[elem.Elem]bool{
		// From no weight to all three, not variable, then variable.
		0x00000000: true, 0x00000004: true, 0x00002000: false, 0x00002004: true,
		0x01000000: false, 0x01000004: false, 0x01002000: false, 0x01002004: true,
		0x00000001: false, 0x00000005: false, 0x00002001: false, 0x00002005: false,
		0x01000001: false, 0x01000005: false, 0x01002001: false, 0x01002005: true,
		// The least and the greatest weights; the bit of variable is no third weight.
		0x00010102: true, 0x00010103: true, 0x00010101: false, 0x00000101: false, 0x00000102: true, 0x00000002: true,
		0xFFFFFFFF: true, 0xFFFFFFFE: true, 0xFFFF00FE: false, 0x0000FFFE: true, 0x0000FFFF: false, 0x80008080: true, 0xFB002004: true,
	} {
		if e.Ok() != want {
			t.Errorf("Ok of %08x = %t", uint32(e), e.Ok())
		}
	}
}

// plainText is the text of an element by the library's own digits.
func plainText(e elem.Elem) string {
	star := ""
	if e%2 == 1 {
		star = "*"
	}
	return fmt.Sprintf("[%s%04x.%02x.%02x]", star, e/65536, e/256%256, e%256/2)
}

// told finds the texts that elements have: the third weight has seven bits.
var told = regexp.MustCompile(`\A\[(\*?)([0-9a-f]{4})\.([0-9a-f]{2})\.([0-7][0-9a-f])\]\z`)

// plainParse leans on a pattern, which the package does without.
func plainParse(s string) (elem.Elem, api.Errno) {
	l := told.FindStringSubmatch(s)
	if l == nil {
		return 0, api.ErrForm
	}
	first, _ := strconv.ParseUint(l[2]+l[3], 16, 24)
	third, _ := strconv.ParseUint(l[4], 16, 7)
	return elem.Elem(first*256 + third*2 + uint64(len(l[1]))), api.OK
}

// reads holds what Parse says of s against the pattern.
func reads(t *testing.T, s string) {
	t.Helper()
	want, wantE := plainParse(s)
	if e, err := elem.Parse(s); e != want || err != wantE {
		t.Fatalf("Parse(%.40q) = %08x, %d; want %08x, %d", s, uint32(e), err, uint32(want), wantE)
	}
}

// thereAndBack holds Text and Parse of e against each other and against the plain ones.
func thereAndBack(t *testing.T, e elem.Elem) {
	t.Helper()
	s := e.Text()
	if want := plainText(e); s != want {
		t.Fatalf("Text of %08x = %q; want %q", uint32(e), s, want)
	}
	if back, err := elem.Parse(s); back != e || err != api.OK {
		t.Fatalf("Parse(%q) = %08x, %d; want %08x", s, uint32(back), err, uint32(e))
	}
}

func TestTextByHand(t *testing.T) { // 3.1, 3.2
	for e, want := range map[elem.Elem]string{
		0x01002004: "[0100.20.02]",
		0x00102005: "[*0010.20.02]",
		0x00002404: "[0000.24.02]",
		0:          "[0000.00.00]",
		1:          "[*0000.00.00]",
		2:          "[0000.00.01]",
		0xFFFFFFFF: "[*ffff.ff.7f]",
		0xFFFFFFFE: "[ffff.ff.7f]",
		0x000000FE: "[0000.00.7f]",
		0x0000FF00: "[0000.ff.00]",
		0x00010000: "[0001.00.00]",
		0xFFFF0000: "[ffff.00.00]",
		0xFEDCBA98: "[fedc.ba.4c]",
		0x98765432: "[9876.54.19]",
		0x0A0B0C0D: "[*0a0b.0c.06]",
	} {
		if s := e.Text(); s != want {
			t.Errorf("Text of %08x = %q; want %q", uint32(e), s, want)
		}
		if back, err := elem.Parse(want); back != e || err != api.OK {
			t.Errorf("Parse(%q) = %08x, %d; want %08x", want, uint32(back), err, uint32(e))
		}
	}
}

func TestThereAndBack(t *testing.T) { // 3.1, 3.2
	each(func(e elem.Elem, _, _, _ int, _ bool) { thereAndBack(t, e) })
	for i := range 1 << 16 {
		thereAndBack(t, elem.Elem(i))
		thereAndBack(t, elem.Elem(i<<16|i))
		// An odd factor goes through all words without a rule that is to be seen.
		thereAndBack(t, elem.Elem(uint32(i)*2654435761))
	}
}

func TestParseWrong(t *testing.T) { // 3.1
	for _, s := range []string{
		"", "[", "]", "[]", "[*", "[*]", "*", "0100.20.02", "[0100.20.02", "0100.20.02]", "*0100.20.02", "*[0100.20.02]", "[0100.20.02*]",
		"[**0100.20.02]", "[* 0100.20.02]", "[*0100.20.02", "[0*100.20.02]", "[*100.20.02]", "[100.20.02]", "[00100.20.02]", "[0100.020.02]", "[0100.20.002]",
		"[0100.2.02]", "[0100.20.2]", "[0100.20.2 ]", "[0100.20]", "[0100]", "[0100.20.02.00]", "[0100..20.02]", "[0100.20.02.]", "[.0100.20.02]", "[01.0020.02]",
		"[0100,20,02]", "[0100 20 02]", "[0100.20-02]", "(0100.20.02)", "{0100.20.02}", "[[100.20.02]", "[0100.20.0]]", "]0100.20.02[",
		"[010A.20.02]", "[abcD.20.02]", "[0100.2F.02]", "[0100.20.0F]", "[010g.20.02]", "[0100.20.0x]", "[0x10.20.02]", "[+100.20.02]", "[-100.20.02]", "[0100.-1.02]", "[1_00.20.02]",
		"[0100.20.80]", "[0100.20.82]", "[0100.20.ff]", "[*0100.20.80]", "[ffff.ff.80]", "[*ffff.ff.ff]", "[0000.00.80]",
		" [0100.20.02]", "[0100.20.02] ", "[0100.20.02]\n", "\n[0100.20.02]", "[0100.20.02]\x00", "[ 100.20.02]", "[0100.20.02][0100.20.02]", "[0100.20.02] [0120.20.02]",
		"[01\x000.20.02]", "[01\xff0.20.02]", "[\xc3\xa900.20.02]", "[\u0661100.20.02]", "[\uff1100.20.02]", "\uff3b0100.20.02]", "\xff\xfe", strings.Repeat("\xff", 12), strings.Repeat("0", 12), strings.Repeat("[", 13), strings.Repeat(".", 12),
		"[" + strings.Repeat("0", 5000) + "100.20.02]", "[*" + strings.Repeat("f", 5000), strings.Repeat("[0100.20.02]", 500),
	} {
		if e, err := elem.Parse(s); e != 0 || err != api.ErrForm {
			t.Errorf("Parse(%.40q) = %08x, %d; want an error", s, uint32(e), err)
		}
	}
}

func TestParseButForOneByte(t *testing.T) { // 3.1
	for _, e := range []elem.Elem{0, 1, 0x01002004, 0x01002005, 0x00002404, 0xFFFFFFFE, 0xFFFFFFFF, 0x9ABCDEF1, 0xA9CBEDF0} {
		s := e.Text()
		for i := range len(s) {
			reads(t, s[:i])
			reads(t, s[i:])
			reads(t, s[:i]+s[i+1:])
		}
		for x := range 256 {
			b := string([]byte{byte(x)})
			for i := range len(s) {
				reads(t, s[:i]+b+s[i+1:])
				reads(t, s[:i]+b+s[i:])
			}
			reads(t, s+b)
		}
	}
}

func TestParseEveryThirdWeight(t *testing.T) { // 3.1
	for i := range 256 {
		reads(t, fmt.Sprintf("[0100.20.%02x]", i))
		reads(t, fmt.Sprintf("[*ffff.ff.%02x]", i))
		reads(t, fmt.Sprintf("[0100.20.%02X]", i))
	}
}

func TestNoPanic(t *testing.T) { // 3.3
	defer func() {
		if p := recover(); p != nil {
			t.Fatal(p)
		}
	}()
	numbers := append(beyond(1), levels()...)
	for _, p := range numbers {
		for _, s := range numbers {
			for _, th := range numbers {
				elem.Make(p, s, th, p > s)
			}
			e := elem.Elem(p)
			e.With(s, p).Text()
			e.Weight(s)
			e.Variable()
			e.Ok()
		}
	}
	// All short texts of the bytes that an element's text has, and of some that it has not.
	var grow func(s string)
	grow = func(s string) {
		elem.Parse(s)
		if len(s) == 5 {
			return
		}
		for _, b := range []string{"[", "*", "0", "f", ".", "]", "\x00", "\xff"} {
			grow(s + b)
		}
	}
	grow("")
}
