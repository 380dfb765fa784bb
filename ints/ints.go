// Package ints holds whole numbers that never wrap unseen, and their bits: chapter 1 of the document.
package ints

import (
	"math"
	"strconv"
	"strings"

	"umlaut/api"
)

// top is the bit that tells a sign.
const top = 1 << 63

// Add: see promise 1.1.
func Add(a, b int64) (int64, api.Errno) {
	sum := a + b
	// A sum that did not wrap is above a just where b is above 0.
	if (sum > a) != (b > 0) {
		return 0, api.ErrOver
	}
	return sum, api.OK
}

// Sub: see promise 1.1.
func Sub(a, b int64) (int64, api.Errno) {
	diff := a - b
	// A difference that did not wrap is below a just where b is above 0.
	if (diff < a) != (b > 0) {
		return 0, api.ErrOver
	}
	return diff, api.OK
}

// Mul: see promise 1.1.
func Mul(a, b int64) (int64, api.Errno) {
	if b == 0 {
		return 0, api.OK
	}
	// Dividing the least number by -1 wraps, so the test below would miss it.
	if b == -1 {
		return Neg(a)
	}
	product := a * b
	if product/b != a {
		return 0, api.ErrOver
	}
	return product, api.OK
}

// Neg: see promise 1.1.
func Neg(a int64) (int64, api.Errno) {
	if a == math.MinInt64 {
		return 0, api.ErrOver
	}
	return -a, api.OK
}

// Div: see promise 1.1.
func Div(a, b int64) (int64, api.Errno) {
	if b == 0 {
		return 0, api.ErrDiv
	}
	// Only by -1 can a quotient be too great.
	if b == -1 {
		return Neg(a)
	}
	return a / b, api.OK
}

// Mod: see promise 1.1.
func Mod(a, b int64) (int64, api.Errno) {
	if b == 0 {
		return 0, api.ErrDiv
	}
	return a % b, api.OK
}

// Shl: see promise 1.1.
func Shl(a, n int64) (int64, api.Errno) {
	if !mayShift(n) {
		return 0, api.ErrShift
	}
	moved := a << n
	// The way back brings a again only where no bit of it, nor its sign, fell out.
	if moved>>n != a {
		return 0, api.ErrOver
	}
	return moved, api.OK
}

// Shr: see promise 1.1.
func Shr(a, n int64) (int64, api.Errno) {
	if !mayShift(n) {
		return 0, api.ErrShift
	}
	return a >> n, api.OK
}

func mayShift(n int64) bool {
	return n >= 0 && n <= 63
}

// Fit: see promise 1.2.
func Fit(x int64, size int, signed bool) (int64, api.Errno) {
	if Wrap(x, size, signed) != x {
		return 0, api.ErrOver
	}
	return x, api.OK
}

// Wrap: see promise 1.2.
func Wrap(x int64, size int, signed bool) int64 {
	switch {
	case size == 1 && signed:
		return int64(int8(x))
	case size == 1:
		return int64(uint8(x))
	case size == 2 && signed:
		return int64(int16(x))
	case size == 2:
		return int64(uint16(x))
	case size == 4 && signed:
		return int64(int32(x))
	case size == 4:
		return int64(uint32(x))
	}
	return x
}

// Get: see promise 1.2.
func Get(w uint64, at, n int) uint64 {
	m := mask(at, n)
	// An at that is outside the word must not reach the shift: below 0 it panics.
	if m == 0 {
		return 0
	}
	return (w >> at) & m
}

// Set: see promise 1.2.
func Set(w uint64, at, n int, v uint64) uint64 {
	m := mask(at, n)
	if m == 0 {
		return w
	}
	return w&^(m<<at) | (v&m)<<at
}

// mask has at its low end as many bits as the word has of the n from at on: bits above 63 are none.
func mask(at, n int) uint64 {
	if at < 0 || at > 63 || n < 1 {
		return 0
	}
	return ^uint64(0) >> (64 - min(n, 64-at))
}

// Turn: see promise 1.2.
func Turn(x int64) uint64 {
	return uint64(x) ^ top
}

// Back: see promise 1.2.
func Back(w uint64) int64 {
	return int64(w ^ top)
}

// Text: see promise 1.3.
func Text(x int64) string {
	return strconv.FormatInt(x, 10)
}

// Parse: see promise 1.3.
func Parse(s string) (int64, api.Errno) {
	// The form of the whole text comes ahead of its bounds, and strconv stops at the first fault.
	if !areDigits(strings.TrimPrefix(s, "-")) {
		return 0, api.ErrForm
	}
	x, err := strconv.ParseInt(s, 10, 64)
	if err != nil {
		return 0, api.ErrOver
	}
	return x, api.OK
}

func areDigits(s string) bool {
	for i := range len(s) {
		if s[i] < '0' || s[i] > '9' {
			return false
		}
	}
	return s != ""
}
