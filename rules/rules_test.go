package rules_test

import (
	"math"
	"regexp"
	"slices"
	"strconv"
	"strings"
	"testing"

	"umlaut/api"
	"umlaut/rules"
	"umlaut/utext"
)

// special holds the signs that stand in a sequence behind a backslash alone.
const special = " \n&<=/\\"

// marks holds the relations by their numbers.
var marks = []string{api.RReset: "&", api.RFirst: "<", api.RSecond: "<<", api.RThird: "<<<", api.RSame: "="}

// seq is the signs of a sequence that a text of Go tells.
func seq(b string) []int {
	return utext.Signs(b)
}

func reset(b string) rules.Rule {
	return rules.Rule{Rel: api.RReset, Seq: seq(b)}
}

func rule(rel int, b string) rules.Rule {
	return rules.Rule{Rel: rel, Seq: seq(b)}
}

func expanded(rel int, b, exp string) rules.Rule {
	return rules.Rule{Rel: rel, Seq: seq(b), Exp: seq(exp)}
}

// show tells rules as numbers.
func show(l []rules.Rule) string {
	var s strings.Builder
	for _, x := range l {
		s.WriteString("(" + strconv.Itoa(x.Rel))
		for _, c := range x.Seq {
			s.WriteString(" " + strconv.FormatInt(int64(c), 16))
		}
		if len(x.Exp) > 0 {
			s.WriteString(" /")
		}
		for _, c := range x.Exp {
			s.WriteString(" " + strconv.FormatInt(int64(c), 16))
		}
		s.WriteString(")")
	}
	return s.String()
}

// reads asks that s is read as these rules.
func reads(t *testing.T, s string, want ...rules.Rule) {
	t.Helper()
	l, at, e := rules.Parse(s)
	if show(l) != show(want) || at != 0 || e != api.OK {
		t.Errorf("Parse(%q) = %s, %d, %d; want %s", s, show(l), at, e, show(want))
	}
}

// fails asks that s has its syntax error at that place.
func fails(t *testing.T, s string, want int) {
	t.Helper()
	l, at, e := rules.Parse(s)
	if len(l) != 0 || at != want || e != api.ErrSyntax {
		t.Errorf("Parse(%q) = %s, %d, %d; want a syntax error at %d", s, show(l), at, e, want)
	}
}

// tells asks that the rules are told by s, and s is read as them.
func tells(t *testing.T, s string, l ...rules.Rule) {
	t.Helper()
	if got, e := rules.Text(l); got != s || e != api.OK {
		t.Errorf("Text(%s) = %q, %d; want %q", show(l), got, e, s)
	}
	reads(t, s, l...)
}

// untold asks that no text tells the rules.
func untold(t *testing.T, l ...rules.Rule) {
	t.Helper()
	if got, e := rules.Text(l); got != "" || e != api.ErrArg {
		t.Errorf("Text(%s) = %q, %d; want ErrArg", show(l), got, e)
	}
}

func TestExamples(t *testing.T) { // 6.1
	reads(t, "&c <ch", reset("c"), rule(api.RFirst, "ch"))
	fails(t, "<a", 0)
}

func TestNoRules(t *testing.T) { // 6.1
	for _, s := range []string{"", " ", "\n", "  ", "\n\n", " \n \n ", strings.Repeat(" \n", 5000)} {
		reads(t, s)
	}
}

func TestRelations(t *testing.T) { // 6.1
	reads(t, "&a &b", reset("a"), reset("b"))
	reads(t, "&a <b", reset("a"), rule(api.RFirst, "b"))
	reads(t, "&a <<b", reset("a"), rule(api.RSecond, "b"))
	reads(t, "&a <<<b", reset("a"), rule(api.RThird, "b"))
	reads(t, "&a =b", reset("a"), rule(api.RSame, "b"))
	reads(t, "& a < b << c <<< d = e & f", reset("a"), rule(api.RFirst, "b"), rule(api.RSecond, "c"), rule(api.RThird, "d"), rule(api.RSame, "e"), reset("f"))
	// The longest counts, so that what stands behind it is no sequence.
	fails(t, "&a <<<<b", 6)
	fails(t, "&a <<<<<<b", 6)
	fails(t, "&a < <b", 5)
	fails(t, "&a << <b", 6)
	fails(t, "&a <<< <b", 7)
	fails(t, "&a <=b", 4)
	fails(t, "&a =<b", 4)
	fails(t, "&a ==b", 4)
	fails(t, "&&a", 1)
	// What looks like a relation is none.
	for _, s := range []string{">b", ">>b", "|b", "-b", "+b", "\tb", "\rb", "b", "bcd", `\b`, `\&b`, "\u00e9", "\xff", "\x00", "\uff1cb"} {
		fails(t, s, 0)
		fails(t, "&a "+s, 3)
		fails(t, "&a <b\n"+s, 6)
	}
}

func TestWords(t *testing.T) { // 6.1
	want := []rules.Rule{reset("a"), rule(api.RFirst, "bc"), rule(api.RSecond, "d")}
	for _, s := range []string{
		"&a <bc <<d", "& a < bc << d", "& a <bc << d", "&a < bc <<d",
		"&\na\n<\nbc\n<<\nd", "\n&\n\na \n<  bc\n \n<<d \n", "   &   a   <   bc   <<   d   ",
		// A sign that ends a sequence does so with no blank ahead of it.
		"&a<bc<<d", "&a< bc<<d", "& a<bc <<d",
	} {
		reads(t, s, want...)
	}
	// The other blanks are signs like others.
	reads(t, "&\t", reset("\t"))
	reads(t, "&a\r\n<\u00a0", reset("a\r"), rule(api.RFirst, "\u00a0"))
	reads(t, "&\x00 <\v", reset("\x00"), rule(api.RFirst, "\v"))
}

func TestSequences(t *testing.T) { // 6.1
	reads(t, "&a", reset("a"))
	reads(t, "&ab", reset("ab"))
	reads(t, "&abc", reset("abc"))
	reads(t, "&aaa <bbb", reset("aaa"), rule(api.RFirst, "bbb"))
	reads(t, "&> <>>", reset(">"), rule(api.RFirst, ">>"))
	// The fourth sign, and nothing but it.
	fails(t, "&abcd", 4)
	fails(t, "& abcd", 5)
	fails(t, "&abcdefgh <", 4)
	fails(t, "&a <bcde", 7)
	fails(t, "&a < bcde/x", 8)
	fails(t, "&a <b/cdef", 9)
	fails(t, "&a <b / cdef <g", 11)
	fails(t, `&abc\d`, 4)
	fails(t, `&abc\<`, 4)
	fails(t, `&abc\`, 4)
	fails(t, `&\a\b\c\d`, 7)
	fails(t, "&\u00e9\u00e9\u00e9\u00e9", 7)
	// A sequence is one word.
	fails(t, "&a b", 3)
	fails(t, "&a <b c", 6)
	fails(t, "&a <b\nc", 6)
	fails(t, "&a <b/c d", 8)
	// None at all.
	fails(t, "&", 1)
	fails(t, "& ", 2)
	fails(t, "& \n \n", 5)
	fails(t, "&a <", 4)
	fails(t, "&a << \n", 7)
	fails(t, "&a =", 4)
	fails(t, "& <a", 2)
	fails(t, "&<a", 1)
	fails(t, "&a < =b", 5)
	fails(t, "&a = &b", 5)
	fails(t, "&a <<\n\n<b", 7)
	fails(t, "&/a", 1)
	fails(t, "&a </b", 4)
	fails(t, "&a < /b", 5)
}

func TestSignsThatEndSequences(t *testing.T) { // 6.1
	reads(t, "&a&b", reset("a"), reset("b"))
	reads(t, "&a<b", reset("a"), rule(api.RFirst, "b"))
	reads(t, "&a<<b", reset("a"), rule(api.RSecond, "b"))
	reads(t, "&a<<<b", reset("a"), rule(api.RThird, "b"))
	reads(t, "&a=b", reset("a"), rule(api.RSame, "b"))
	reads(t, "&a=b/c", reset("a"), expanded(api.RSame, "b", "c"))
	reads(t, "&a ", reset("a"))
	reads(t, "&a\n", reset("a"))
	reads(t, "&abc<def/ghi=jkl&mno", reset("abc"), expanded(api.RFirst, "def", "ghi"), rule(api.RSame, "jkl"), reset("mno"))
	fails(t, "&a&", 3)
	fails(t, "&a<", 3)
	fails(t, "&a=", 3)
	fails(t, "&a<b/", 5)
	// Behind a backslash each of them is a sign, at each place of a sequence.
	for _, c := range special {
		s := string(c)
		reads(t, `&\`+s, reset(s))
		reads(t, `&a\`+s, reset("a"+s))
		reads(t, `&\`+s+"a", reset(s+"a"))
		reads(t, `& a\`+s+"b", reset("a"+s+"b"))
		reads(t, `&\`+s+`\`+s+`\`+s, reset(s+s+s))
		reads(t, `&a < \`+s+` / \`+s, reset("a"), expanded(api.RFirst, s, s))
		reads(t, `&a <\`+s+`/b\`+s, reset("a"), expanded(api.RFirst, s, "b"+s))
		fails(t, `&\`+s+`\`+s+`\`+s+`\`+s, 7)
	}
	// Any other sign may stand behind one too, and is that sign.
	for _, s := range []string{"a", "n", "0", "\t", "\x00", "\u00e9", "\u20ac", "\U0001f600", "\xff", "\xc3", "\x80"} {
		reads(t, `&\`+s, reset(s))
		reads(t, `&\`+s+`\`+s+`\`+s, reset(s+s+s))
	}
	reads(t, `&\\a`, reset(`\a`))
	reads(t, `&\\\\ <\<`, reset(`\\`), rule(api.RFirst, "<"))
	// A backslash parts bytes that would be one sign together.
	reads(t, "&\xc3\\\xa9", rules.Rule{Rel: api.RReset, Seq: []int{0x1100C3, 0x1100A9}})
}

func TestBackslashAtTheEnd(t *testing.T) { // 6.1
	for _, s := range []string{`&\`, `&a\`, `&ab\`, `& \`, `&\\\`, `&a <\`, `&a <b\`, `&a <b/\`, `&a <b / c\`, "&\u00e9\\"} {
		fails(t, s, len(s))
	}
	// There a blank behind it is its sign.
	reads(t, `&a\ `, reset("a "))
	reads(t, "&a\\\n", reset("a\n"))
	// None may go on there, whatever stands behind it.
	fails(t, `\`, 0)
	fails(t, `&a \`, 3)
	fails(t, `&a <b /c \`, 9)
}

func TestExpansions(t *testing.T) { // 6.1
	for rel := api.RFirst; rel <= api.RSame; rel++ {
		want := []rules.Rule{reset("a"), expanded(rel, "bc", "def"), rule(rel, "g")}
		m := marks[rel]
		for _, s := range []string{
			"bc/def", "bc /def", "bc/ def", "bc / def", "bc\n/\ndef", " bc  /  def ",
		} {
			reads(t, "&a "+m+s+" "+m+"g", want...)
			reads(t, "&a"+m+s+m+"g", want...)
		}
		// None of a sequence without a sign.
		fails(t, "&a "+m+"b/", 5+len(m))
		fails(t, "&a "+m+"b / ", 7+len(m))
		fails(t, "&a "+m+"b/ &c", 6+len(m))
		fails(t, "&a "+m+"b/&c", 5+len(m))
		fails(t, "&a "+m+"b/"+m+"c", 5+len(m))
		fails(t, "&a "+m+"b//c", 5+len(m))
		fails(t, "&a "+m+"b / /c", 7+len(m))
		// No second one.
		fails(t, "&a "+m+"b/c/d", 6+len(m))
		fails(t, "&a "+m+"b / c / d", 9+len(m))
		fails(t, "&a "+m+"b/c/", 6+len(m))
	}
	// None behind a reset, the first one or another.
	fails(t, "&a/b", 2)
	fails(t, "&a /b", 3)
	fails(t, "& a / b", 4)
	fails(t, "&a <b &c/d", 8)
	fails(t, "/a", 0)
	fails(t, "&a <b/c &d /e", 11)
	// With each rule its own.
	reads(t, "&a <b/c <d <<e/f", reset("a"), expanded(api.RFirst, "b", "c"), rule(api.RFirst, "d"), expanded(api.RSecond, "e", "f"))
	reads(t, `&a <b/\/ =\//\/`, reset("a"), expanded(api.RFirst, "b", "/"), expanded(api.RSame, "/", "/"))
}

func TestFirstRule(t *testing.T) { // 6.1
	for rel := api.RFirst; rel <= api.RSame; rel++ {
		fails(t, marks[rel]+"a", 0)
		fails(t, marks[rel]+"a &b", 0)
		fails(t, " \n"+marks[rel]+" a", 2)
		fails(t, marks[rel], 0)
	}
	// Behind a reset others may stand, and resets too.
	reads(t, "&a &b &c", reset("a"), reset("b"), reset("c"))
	reads(t, "&a =b =c &d =e", reset("a"), rule(api.RSame, "b"), rule(api.RSame, "c"), reset("d"), rule(api.RSame, "e"))
}

func TestPlacesAreBytes(t *testing.T) { // 6.1
	reads(t, "&\u00e9\u20ac\U0001f600 <\u00df", reset("\u00e9\u20ac\U0001f600"), rule(api.RFirst, "\u00df"))
	fails(t, "&\u00e9\u20ac\U0001f600x", 10)
	fails(t, "&\u00e9\u20ac\U0001f600\u00e9", 10)
	fails(t, "&\u00e9 \u00e9", 4)
	fails(t, "&\u20ac <\U0001f600/", 11)
	fails(t, "\u00e9", 0)
	fails(t, " \u00e9", 1)
	// A byte that begins no code point is a sign.
	reads(t, "&\xff\xfe\x80 <\xc3", rules.Rule{Rel: api.RReset, Seq: []int{0x1100FF, 0x1100FE, 0x110080}}, rules.Rule{Rel: api.RFirst, Seq: []int{0x1100C3}})
	reads(t, "&\xc3<\xe2\x82/\xf0\x9f\x98", rules.Rule{Rel: api.RReset, Seq: []int{0x1100C3}}, rules.Rule{Rel: api.RFirst, Seq: []int{0x1100E2, 0x110082}, Exp: []int{0x1100F0, 0x11009F, 0x110098}})
	reads(t, "&\xc3\xc3\xa9\xc3", rules.Rule{Rel: api.RReset, Seq: []int{0x1100C3, 0xE9, 0x1100C3}})
	fails(t, "&\xff\xfe\x80\x80", 4)
	fails(t, "&\xf4\x90\x80\x80", 4)
	fails(t, "&\xed\xa0\x80\xff", 4)
	fails(t, "&\xc3 \xa9", 3)
	fails(t, "\xff&a", 0)
	// Bytes of a longer sign are none of the signs that end a sequence, and no shorter form of them is.
	reads(t, "&\u0126\u263c\u2f3d", reset("\u0126\u263c\u2f3d"))
	reads(t, "&\xc0\xbc", rules.Rule{Rel: api.RReset, Seq: []int{0x1100C0, 0x1100BC}})
}

// chain is a text of n rules, each one's relation and sequence parted by blank.
func chain(n int, blank string) (s string, l []rules.Rule) {
	for i := range n {
		rel := api.RReset + i%5
		b := string(rune('a' + i%26))
		s += marks[rel] + blank + b + blank
		l = append(l, rule(rel, b))
	}
	return s, l
}

func TestManyRules(t *testing.T) { // 6.1
	for _, blank := range []string{"", " ", "\n\n"} {
		for _, n := range []int{1, 39, 40} {
			s, want := chain(n, blank)
			reads(t, s, want...)
		}
		for _, n := range []int{41, 42, 80, 81, 1000} {
			s, _ := chain(n, blank)
			if l, at, e := rules.Parse(s); len(l) != 0 || at != 0 || e != api.ErrMany {
				t.Errorf("Parse of %d rules = %s, %d, %d; want ErrMany", n, show(l), at, e)
			}
			// A syntax error comes first, wherever it stands.
			for _, x := range []struct {
				more string
				at   int
			}{{"x", 0}, {"&", 1}, {"<", 1}, {"&abcd", 4}, {"&b/", 2}, {"<b/", 3}, {`&\`, 2}} {
				fails(t, s+" "+x.more, len(s)+1+x.at)
			}
			fails(t, "x"+s, 0)
			fails(t, "&a/"+s, 2)
		}
	}
}

func TestText(t *testing.T) { // 6.1, 6.2
	tells(t, "")
	tells(t, "& a", reset("a"))
	tells(t, "& abc", reset("abc"))
	tells(t, "& a & b", reset("a"), reset("b"))
	tells(t, "& a < b << c <<< d = e", reset("a"), rule(api.RFirst, "b"), rule(api.RSecond, "c"), rule(api.RThird, "d"), rule(api.RSame, "e"))
	tells(t, "& c < ch / x", reset("c"), expanded(api.RFirst, "ch", "x"))
	for rel := api.RFirst; rel <= api.RSame; rel++ {
		tells(t, "& a "+marks[rel]+" bcd / efg "+marks[rel]+" h", reset("a"), expanded(rel, "bcd", "efg"), rule(rel, "h"))
	}
	tells(t, "& \u00e9\u20ac\U0001f600 < \xff\x80 / \xc3", reset("\u00e9\u20ac\U0001f600"), expanded(api.RFirst, "\xff\x80", "\xc3"))
	tells(t, "& \x00 < \t\r\v = >;\"", reset("\x00"), rule(api.RFirst, "\t\r\v"), rule(api.RSame, ">;\""))
	// An empty list is none.
	for _, none := range [][]int{nil, {}} {
		l := []rules.Rule{{Rel: api.RReset, Seq: seq("a"), Exp: none}, {Rel: api.RFirst, Seq: seq("b"), Exp: none}}
		if s, e := rules.Text(l); s != "& a < b" || e != api.OK {
			t.Errorf("Text(%s) = %q, %d", show(l), s, e)
		}
	}
	if s, e := rules.Text([]rules.Rule{}); s != "" || e != api.OK {
		t.Errorf("Text of none = %q, %d", s, e)
	}
	for _, n := range []int{1, 39, 40} {
		s, l := chain(n, " ")
		tells(t, strings.TrimSuffix(s, " "), l...)
	}
}

func TestTextOfSpecialSigns(t *testing.T) { // 6.1, 6.2
	for _, c := range special {
		s := string(c)
		tells(t, `& \`+s, reset(s))
		tells(t, `& a\`+s+"b", reset("a"+s+"b"))
		tells(t, `& \`+s+`\`+s+`\`+s, reset(s+s+s))
		tells(t, `& a = b\`+s+` / \`+s+"c", reset("a"), expanded(api.RSame, "b"+s, s+"c"))
		tells(t, `& a < \`+s+` & \`+s, reset("a"), rule(api.RFirst, s), reset(s))
	}
	// No other sign needs a backslash.
	for c := range 0x3000 {
		s := string(rune(c))
		if !strings.ContainsRune(special, rune(c)) {
			tells(t, "& "+s, reset(s))
		}
	}
	for c := 0x80; c < 0x100; c++ {
		tells(t, "& "+string([]byte{byte(c)}), rules.Rule{Rel: api.RReset, Seq: []int{0x110000 + c}})
	}
	for _, c := range []int{0xD7FF, 0xE000, 0xFFFD, 0xFFFF, 0x10000, 0x1000A, 0x10FFFF} {
		tells(t, "& "+string(rune(c)), rules.Rule{Rel: api.RReset, Seq: []int{c}})
	}
}

// noSigns holds numbers that are no signs, some with the lowest bits of one.
var noSigns = []int{-1, -2, 'a' - 256, ' ' - 256, 0xD800, 0xDABC, 0xDFFF, 0x110000, 0x110020, 0x110061, 0x11007F, 0x110100, 0x120000, 1 << 31, 1 << 32, 1<<32 + 'a', 1<<32 + ' ', math.MinInt32, math.MaxInt32, math.MinInt, math.MinInt + 'a', math.MaxInt}

func TestRulesThatNoTextTells(t *testing.T) { // 6.1, 6.2
	a := reset("a")
	for _, rel := range []int{0, -1, 6, 7, -5, 256 + 1, 1<<32 + 2, math.MinInt, math.MaxInt} {
		untold(t, rule(rel, "b"))
		untold(t, a, rule(rel, "b"))
		untold(t, a, expanded(rel, "b", "c"))
		untold(t, a, rule(rel, "b"), rule(api.RFirst, "c"))
	}
	for rel := api.RReset; rel <= api.RSame; rel++ {
		untold(t, a, rules.Rule{Rel: rel})
		untold(t, a, rules.Rule{Rel: rel, Seq: []int{}})
		untold(t, a, rules.Rule{Rel: rel}, rule(api.RFirst, "b"))
		untold(t, a, rules.Rule{Rel: rel, Exp: seq("b")})
		untold(t, a, rule(rel, "bcde"))
		untold(t, a, rule(rel, "bcdef"))
		untold(t, a, rule(rel, strings.Repeat("b", 5000)))
		untold(t, a, expanded(rel, "b", "cdef"))
		untold(t, a, expanded(rel, "bcde", "f"))
		for _, c := range noSigns {
			for _, l := range [][]int{{c}, {c, 'b'}, {'b', c}, {'b', c, 'd'}, {c, c, c}, {'b', 'c', 'd', c}} {
				untold(t, a, rules.Rule{Rel: rel, Seq: l})
				untold(t, a, rules.Rule{Rel: rel, Seq: seq("b"), Exp: l})
			}
		}
		if rel != api.RReset {
			untold(t, rule(rel, "a"))
			untold(t, rule(rel, "a"), reset("b"))
			untold(t, expanded(rel, "a", "b"))
		}
	}
	untold(t, rules.Rule{})
	untold(t, rules.Rule{Rel: api.RReset})
	untold(t, rules.Rule{Rel: api.RReset}, rule(api.RFirst, "b"))
	untold(t, expanded(api.RReset, "a", "b"))
	untold(t, a, expanded(api.RReset, "a", "b"))
	// Bytes that are another sign together.
	untold(t, rules.Rule{Rel: api.RReset, Seq: []int{0x1100C3, 0x1100A9}})
	untold(t, a, rules.Rule{Rel: api.RSame, Seq: seq("b"), Exp: []int{0x1100E2, 0x110082, 0x1100AC}})
	for _, n := range []int{41, 42, 1000} {
		_, l := chain(n, " ")
		untold(t, l...)
	}
}

// Bytes on both sides of a blank are no sign together.
func TestStrayBytesAtTheEdges(t *testing.T) { // 6.1, 6.2
	tells(t, "& \xc3 < \xa9 / \xc3 = \xa9", rules.Rule{Rel: api.RReset, Seq: []int{0x1100C3}}, rules.Rule{Rel: api.RFirst, Seq: []int{0x1100A9}, Exp: []int{0x1100C3}}, rules.Rule{Rel: api.RSame, Seq: []int{0x1100A9}})
	tells(t, "& \xc3\\ \xa9", rules.Rule{Rel: api.RReset, Seq: []int{0x1100C3, ' ', 0x1100A9}})
	tells(t, "& \xa9\xc3", rules.Rule{Rel: api.RReset, Seq: []int{0x1100A9, 0x1100C3}})
}

// The forms of the chapter, as patterns: those of a whole text, and of a rule in one.
var (
	whole = regexp.MustCompile(`^[ \n]*(?:&[ \n]*` + signs + `[ \n]*(?:&[ \n]*` + signs + `[ \n]*|(?:<{1,3}|=)[ \n]*` + signs + `[ \n]*(?:/[ \n]*` + signs + `[ \n]*)?)*)?$`)
	part  = regexp.MustCompile(`(&|<{1,3}|=)[ \n]*(` + signs + `)[ \n]*(?:/[ \n]*(` + signs + `))?`)
)

const signs = `(?:[^ \n&<=/\\]|\\(?s:.)){1,3}`

// unescaped is the signs of a sequence as a text tells it.
func unescaped(b string) []int {
	var l []int
	behind := false
	for _, c := range utext.Signs(b) {
		if c == '\\' && !behind {
			behind = true
			continue
		}
		l, behind = append(l, c), false
	}
	return l
}

// plainRules is the rules of a text that the pattern of a whole one fits.
func plainRules(s string) []rules.Rule {
	var l []rules.Rule
	for _, x := range part.FindAllStringSubmatch(s, -1) {
		l = append(l, rules.Rule{Rel: slices.Index(marks, x[1]), Seq: unescaped(x[2]), Exp: unescaped(x[3])})
	}
	return l
}

// grow goes through all texts of at most n more of the pieces behind s. As long as no fault is found, fault is -1: a text may yet go on if it is whole, or would be with one more sign.
func grow(t *testing.T, s string, fault int, pieces []string, n int) {
	fits := fault < 0 && whole.MatchString(s)
	want := fault
	if fault < 0 && !fits {
		want = len(s)
	}
	l, at, e := rules.Parse(s)
	switch {
	case fits && (e != api.OK || at != 0 || show(l) != show(plainRules(s))):
		t.Fatalf("Parse(%q) = %s, %d, %d; want %s", s, show(l), at, e, show(plainRules(s)))
	case !fits && (e != api.ErrSyntax || at != want || len(l) != 0):
		t.Fatalf("Parse(%q) = %s, %d, %d; want a syntax error at %d", s, show(l), at, e, want)
	case fits:
		turns(t, l)
	}
	if n == 0 {
		return
	}
	for _, x := range pieces {
		next, nextFault := s+x, fault
		if fault < 0 && !whole.MatchString(next) && !whole.MatchString(next+"a") {
			nextFault = len(s)
		}
		grow(t, next, nextFault, pieces, n-1)
	}
}

// turns holds Text of rules that were read against Parse.
func turns(t *testing.T, l []rules.Rule) {
	t.Helper()
	s, e := rules.Text(l)
	if e != api.OK {
		t.Fatalf("Text(%s) = %q, %d", show(l), s, e)
	}
	back, at, e := rules.Parse(s)
	if show(back) != show(l) || at != 0 || e != api.OK {
		t.Fatalf("Parse(%q) = %s, %d, %d; want %s", s, show(back), at, e, show(l))
	}
}

func TestEveryShortText(t *testing.T) { // 6.1, 6.2
	grow(t, "", -1, []string{"a", "\u00e9", "\xff", " ", "\n", "&", "<", "=", "/", `\`}, 5)
	grow(t, "", -1, []string{"a", " ", "&", "<", "/", `\`}, 7)
	grow(t, "&a", -1, []string{"b", " ", "&", "<", "=", "/", `\`}, 6)
	grow(t, "&a <b", -1, []string{"c", " ", "<", "/", `\`}, 7)
}

// Each list of rules over numbers of all kinds is told so that it is read again, or not at all.
func TestTextOfEveryShortList(t *testing.T) { // 6.1, 6.2
	numbers := []int{'a', ' ', '<', '\\', 0xE9, 0x1100C3, 0x1100A9, 0x1100FF, -1, 0xD800, 0x110061}
	var seqs [][]int
	for _, a := range numbers {
		seqs = append(seqs, []int{a})
		for _, b := range numbers {
			seqs = append(seqs, []int{a, b}, []int{a, b, a})
		}
	}
	for rel := range 7 {
		for _, x := range seqs {
			for _, exp := range [][]int{nil, {'b'}, x} {
				l := []rules.Rule{reset("c"), {Rel: rel, Seq: x, Exp: exp}}
				b, e := utext.Bytes(x)
				told := e == api.OK && rel >= api.RReset && rel <= api.RSame && (rel != api.RReset || len(exp) == 0)
				if !told {
					untold(t, l...)
					continue
				}
				want := "& c " + marks[rel] + " " + escaped(b)
				if len(exp) > 0 {
					b, _ = utext.Bytes(exp)
					want += " / " + escaped(b)
				}
				tells(t, want, l...)
			}
		}
	}
}

// escaped has a backslash ahead of each sign that needs one.
func escaped(b string) string {
	return strings.NewReplacer(" ", `\ `, "\n", "\\\n", "&", `\&`, "<", `\<`, "=", `\=`, "/", `\/`, `\`, `\\`).Replace(b)
}

func TestHandedInStays(t *testing.T) { // 6.1
	room := []int{'a', ' ', 0xE9, 7, 8, 9}
	more := []int{'<', 'x', 5, 6}
	l := []rules.Rule{reset("c"), {Rel: api.RFirst, Seq: room[:3], Exp: more[:2]}, {Rel: 9, Seq: room}, {Rel: 8}}
	if s, e := rules.Text(l[:2]); s != "& c < a\\ \u00e9 / \\<x" || e != api.OK {
		t.Errorf("Text = %q, %d", s, e)
	}
	untold(t, l[:3]...)
	if !slices.Equal(room, []int{'a', ' ', 0xE9, 7, 8, 9}) || !slices.Equal(more, []int{'<', 'x', 5, 6}) {
		t.Errorf("Text left %x, %x", room, more)
	}
	if got := show(l); got != "(1 63)(2 61 20 e9 / 3c 78)(9 61 20 e9 7 8 9)(8)" {
		t.Errorf("Text left %s", got)
	}
}

// overwrite writes over a list and its spare room.
func overwrite(l []int) {
	l = l[:cap(l)]
	for i := range l {
		l[i] = -7
	}
}

// spoil writes over all lists of rules, and their spare room.
func spoil(l []rules.Rule) {
	for _, x := range l {
		for _, list := range [][]int{x.Seq, x.Exp} {
			overwrite(list)
		}
	}
	clear(l[:cap(l)])
}

func TestAnswersAreNewMemory(t *testing.T) { // 6.1
	const s = "&abc <b/c <<d/ef =gh <<<ijk/lmn &o <p/q"
	first, _, _ := rules.Parse(s)
	second, _, _ := rules.Parse(s)
	want := show(second)
	spoil(first)
	if got := show(second); got != want {
		t.Errorf("two answers share memory: %s; want %s", got, want)
	}
	third, _, _ := rules.Parse(s)
	if got := show(third); got != want {
		t.Errorf("Parse = %s; want %s", got, want)
	}
	// No two lists of one answer share any.
	for i := range second {
		for _, list := range [][]int{second[i].Seq, second[i].Exp} {
			keep := slices.Clone(list)
			overwrite(list)
			copy(list, keep)
		}
		if got := show(second); got != want {
			t.Fatalf("lists of one answer share memory: %s; want %s", got, want)
		}
	}
}

func TestNoPanic(t *testing.T) { // 6.3
	defer func() {
		if p := recover(); p != nil {
			t.Fatal(p)
		}
	}()
	for a := range 256 {
		for b := range 256 {
			pair := string([]byte{byte(a), byte(b)})
			for _, s := range []string{pair, "&" + pair, "&a" + pair, "&a <" + pair, "&a <b/" + pair, `&\` + pair, pair + "&a"} {
				l, at, e := rules.Parse(s)
				if at < 0 || at > len(s) || e != api.ErrSyntax && at != 0 || e != api.OK && len(l) > 0 {
					t.Fatalf("Parse(%q) = %s, %d, %d", s, show(l), at, e)
				}
			}
		}
	}
	for _, x := range []string{"&a", "&", "<", "=", "/", `\`, "a", " ", "\n", "\xff", "\xc3", "&a<", "&a<b/"} {
		rules.Parse(strings.Repeat(x, 20000))
	}
	numbers := append([]int{0, 1, 'a', ' ', '\\', 0x10FFFF, 0x110080, 0x1100FF}, noSigns...)
	for _, a := range numbers {
		for _, b := range numbers {
			rules.Text([]rules.Rule{{Rel: a, Seq: []int{b}, Exp: []int{a}}})
			rules.Text([]rules.Rule{{Rel: api.RReset, Seq: []int{a, b}}, {Rel: api.RFirst, Seq: []int{b, a, b}, Exp: []int{a, b, a, b}}})
		}
	}
}
