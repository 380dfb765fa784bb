package table

import (
	"slices"

	"umlaut/elem"
)

// base is the second weight of what has a first one: marks alone have others.
const base = 0x20

// The third weights.
const (
	small       = 0x2
	smallShaped = 0x4
	great       = 0x8
	greatShaped = 0xA
)

// toSmall is how far behind a great letter its small one stands.
const toSmall = 32

// The marks.
const (
	grave      = 0x0300
	acute      = 0x0301
	circumflex = 0x0302
	tilde      = 0x0303
	macron     = 0x0304
	diaeresis  = 0x0308
	ring       = 0x030A
	cedilla    = 0x0327
)

// rootEntries holds the entries of Root, in no order.
func rootEntries() []Entry {
	return slices.Concat(variables(), digits(), letters(), marks(), composed(), others())
}

// one is an entry of one sign.
func one(c int, l ...elem.Elem) Entry {
	return Entry{Seq: []int{c}, L: l}
}

// weigh is the element of weights that are in bounds.
func weigh(p, s, t int, v bool) elem.Elem {
	e, _ := elem.Make(p, s, t, v)
	return e
}

func variables() []Entry {
	var l []Entry
	for i, c := range []int{' ', '_', '-', ',', '.', '\''} {
		l = append(l, one(c, weigh(0x10+4*i, base, small, true)))
	}
	return l
}

func digits() []Entry {
	var l []Entry
	for i := range 10 {
		l = append(l, one('0'+i, weigh(0x80+4*i, base, small, false)))
	}
	return l
}

func letters() []Entry {
	var l []Entry
	for i := range 26 {
		l = append(l, one('a'+i, letter('a'+i)), one('A'+i, letter('A'+i)))
	}
	return l
}

// letter is the element of a letter from A to Z or from a to z.
func letter(c int) elem.Elem {
	if c <= 'Z' {
		return letter(c+toSmall).With(3, great)
	}
	return weigh(0x100+8*(c-'a'), base, small, false)
}

func marks() []Entry {
	var l []Entry
	for _, c := range []int{grave, acute, circumflex, tilde, macron, diaeresis, ring, cedilla} {
		l = append(l, one(c, mark(c)))
	}
	return l
}

// mark is the element of a mark.
func mark(c int) elem.Elem {
	return weigh(0, markWeight(c), small, false)
}

// markWeight is the second weight of a mark.
func markWeight(c int) int {
	switch c {
	case grave:
		return 0x25
	case acute:
		return 0x24
	case circumflex:
		return 0x27
	case tilde:
		return 0x2D
	case macron:
		return 0x2F
	case diaeresis:
		return 0x2B
	case ring:
		return 0x29
	case cedilla:
		return 0x30
	}
	return 0
}

// composed holds the letters that are a letter and a mark.
func composed() []Entry {
	runs := []struct {
		// from is the sign of the letter with the first mark; that with the next mark is the next sign.
		from, letter int
		marks        []int
	}{
		{0xC0, 'A', []int{grave, acute, circumflex, tilde, diaeresis, ring}},
		{0xC7, 'C', []int{cedilla}},
		{0xC8, 'E', []int{grave, acute, circumflex, diaeresis}},
		{0xCC, 'I', []int{grave, acute, circumflex, diaeresis}},
		{0xD1, 'N', []int{tilde}},
		{0xD2, 'O', []int{grave, acute, circumflex, tilde, diaeresis}},
		{0xD9, 'U', []int{grave, acute, circumflex, diaeresis}},
		{0xDD, 'Y', []int{acute}},
	}
	var l []Entry
	for _, r := range runs {
		for i, m := range r.marks {
			l = append(l,
				one(r.from+i, letter(r.letter), mark(m)),
				one(r.from+i+toSmall, letter(r.letter+toSmall), mark(m)))
		}
	}
	return l
}

// others holds the letters that are two letters, and the sign that weighs nothing.
func others() []Entry {
	a, e, s := letter('a'), letter('e'), letter('s').With(3, smallShaped)
	return []Entry{
		one(0xDF, s, s),
		one(0xC6, a.With(3, greatShaped), e.With(3, greatShaped)),
		one(0xE6, a.With(3, smallShaped), e.With(3, smallShaped)),
		one(0xAD),
	}
}
