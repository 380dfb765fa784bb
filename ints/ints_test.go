package ints_test

import (
	"math"
	"math/big"
	"strings"
	"testing"

	"umlaut/api"
	"umlaut/ints"
)

const (
	most  int64  = math.MaxInt64
	least int64  = math.MinInt64
	all   uint64 = math.MaxUint64
)

// numbers holds the edges of every width and of every shift, with their neighbours, and some from between.
func numbers() []int64 {
	l := []int64{0, 10, -10, 3037000499, 3037000500, -3037000500, 1234567890123456789, -987654321987654321, most, most - 1, least, least + 1}
	for i := range 63 {
		p := int64(1) << i
		l = append(l, p, p-1, p+1, -p, -p-1, -p+1)
	}
	return l
}

// places holds bits, widths and sizes: ordinary, on the edge, and wrong.
func places() []int {
	l := []int{math.MinInt, math.MinInt + 1, math.MinInt32, -64, -2, math.MaxInt32, math.MaxInt - 63, math.MaxInt - 1, math.MaxInt}
	for i := -1; i <= 66; i++ {
		l = append(l, i)
	}
	return l
}

func words() []uint64 {
	l := []uint64{0, 0xabcdef0123456789, 0x5555555555555555, 0xaaaaaaaaaaaaaaaa, all}
	for i := 0; i < 64; i += 7 {
		l = append(l, 1<<i, all>>i, all<<i)
	}
	return l
}

// toInt64 is what a call answers for a whole number of any greatness.
func toInt64(x *big.Int) (int64, api.Errno) {
	if !x.IsInt64() {
		return 0, api.ErrOver
	}
	return x.Int64(), api.OK
}

type twoWay func(a, b int64) (int64, api.Errno)

func plainAdd(a, b int64) (int64, api.Errno) {
	return toInt64(new(big.Int).Add(big.NewInt(a), big.NewInt(b)))
}

func plainSub(a, b int64) (int64, api.Errno) {
	return toInt64(new(big.Int).Sub(big.NewInt(a), big.NewInt(b)))
}

func plainMul(a, b int64) (int64, api.Errno) {
	return toInt64(new(big.Int).Mul(big.NewInt(a), big.NewInt(b)))
}

func plainDiv(a, b int64) (int64, api.Errno) {
	if b == 0 {
		return 0, api.ErrDiv
	}
	return toInt64(new(big.Int).Quo(big.NewInt(a), big.NewInt(b)))
}

func plainMod(a, b int64) (int64, api.Errno) {
	if b == 0 {
		return 0, api.ErrDiv
	}
	return toInt64(new(big.Int).Rem(big.NewInt(a), big.NewInt(b)))
}

func plainShl(a, n int64) (int64, api.Errno) {
	if n < 0 || n > 63 {
		return 0, api.ErrShift
	}
	return toInt64(new(big.Int).Lsh(big.NewInt(a), uint(n)))
}

func plainShr(a, n int64) (int64, api.Errno) {
	if n < 0 || n > 63 {
		return 0, api.ErrShift
	}
	return toInt64(new(big.Int).Rsh(big.NewInt(a), uint(n)))
}

// agree holds call against plain on every pair of l and m.
func agree(t *testing.T, name string, call, plain twoWay, l, m []int64) {
	t.Helper()
	for _, a := range l {
		for _, b := range m {
			n, e := call(a, b)
			if want, wantE := plain(a, b); n != want || e != wantE {
				t.Fatalf("%s(%d, %d) = %d, %d; want %d, %d", name, a, b, n, e, want, wantE)
			}
		}
	}
}

func TestArithmetic(t *testing.T) { // 1.1
	l := numbers()
	agree(t, "Add", ints.Add, plainAdd, l, l)
	agree(t, "Sub", ints.Sub, plainSub, l, l)
	agree(t, "Mul", ints.Mul, plainMul, l, l)
	agree(t, "Div", ints.Div, plainDiv, l, l)
	agree(t, "Mod", ints.Mod, plainMod, l, l)
	for _, a := range l {
		n, e := ints.Neg(a)
		if want, wantE := plainSub(0, a); n != want || e != wantE {
			t.Errorf("Neg(%d) = %d, %d; want %d, %d", a, n, e, want, wantE)
		}
	}
}

func TestShifts(t *testing.T) { // 1.1
	l := numbers()
	by := []int64{least, -64, -1, 64, 65, 128, 1 << 32, 1<<32 + 1, 1 << 62, most}
	for n := range int64(64) {
		by = append(by, n)
	}
	agree(t, "Shl", ints.Shl, plainShl, l, by)
	agree(t, "Shr", ints.Shr, plainShr, l, by)
}

type binary struct {
	name string
	call twoWay
	a, b int64
	want int64
	e    api.Errno
}

// The table stands beside the sweeps of TestArithmetic, whose own reckoning could be at fault.
func TestArithmeticByHand(t *testing.T) { // 1.1
	for _, x := range []binary{
		{"Add", ints.Add, -2, 5, 3, api.OK},
		{"Add", ints.Add, most, 1, 0, api.ErrOver},
		{"Add", ints.Add, least, -1, 0, api.ErrOver},
		{"Add", ints.Add, least, most, -1, api.OK},
		{"Sub", ints.Sub, 2, 5, -3, api.OK},
		{"Sub", ints.Sub, 0, least, 0, api.ErrOver},
		{"Sub", ints.Sub, least, least, 0, api.OK},
		{"Mul", ints.Mul, -4, 5, -20, api.OK},
		{"Mul", ints.Mul, least, -1, 0, api.ErrOver},
		{"Mul", ints.Mul, -1, least, 0, api.ErrOver},
		{"Mul", ints.Mul, 1 << 32, 1 << 32, 0, api.ErrOver},
		{"Div", ints.Div, -7, 2, -3, api.OK},
		{"Div", ints.Div, -7, -2, 3, api.OK},
		{"Div", ints.Div, 0, 0, 0, api.ErrDiv},
		{"Div", ints.Div, least, 0, 0, api.ErrDiv},
		{"Div", ints.Div, least, -1, 0, api.ErrOver},
		{"Mod", ints.Mod, -7, 2, -1, api.OK},
		{"Mod", ints.Mod, 7, -2, 1, api.OK},
		{"Mod", ints.Mod, least, 0, 0, api.ErrDiv},
		{"Mod", ints.Mod, least, -1, 0, api.OK},
		{"Shl", ints.Shl, 5, 0, 5, api.OK},
		{"Shl", ints.Shl, 1, 62, 1 << 62, api.OK},
		{"Shl", ints.Shl, 1, 63, 0, api.ErrOver},
		{"Shl", ints.Shl, -1, 63, least, api.OK},
		{"Shl", ints.Shl, -2, 63, 0, api.ErrOver},
		{"Shl", ints.Shl, 0, 63, 0, api.OK},
		{"Shl", ints.Shl, 0, 64, 0, api.ErrShift},
		{"Shl", ints.Shl, most, -1, 0, api.ErrShift},
		{"Shr", ints.Shr, -1, 0, -1, api.OK},
		{"Shr", ints.Shr, -7, 1, -4, api.OK},
		{"Shr", ints.Shr, least, 63, -1, api.OK},
		{"Shr", ints.Shr, most, 63, 0, api.OK},
		{"Shr", ints.Shr, 0, 64, 0, api.ErrShift},
		{"Shr", ints.Shr, 0, -1, 0, api.ErrShift},
	} {
		if n, e := x.call(x.a, x.b); n != x.want || e != x.e {
			t.Errorf("%s(%d, %d) = %d, %d; want %d, %d", x.name, x.a, x.b, n, e, x.want, x.e)
		}
	}
}

// plainWrap takes the rest by 2^bits, and then the half of the rests that a sign turns below 0.
func plainWrap(x int64, size int, signed bool) int64 {
	if size != 1 && size != 2 && size != 4 {
		return x
	}
	span := int64(1) << (8 * size)
	rest := (x%span + span) % span
	if signed && rest >= span/2 {
		rest -= span
	}
	return rest
}

func TestWrapAndFit(t *testing.T) { // 1.2
	for _, x := range numbers() {
		for _, size := range places() {
			for _, signed := range []bool{true, false} {
				want, wantE := plainWrap(x, size, signed), api.OK
				if n := ints.Wrap(x, size, signed); n != want {
					t.Fatalf("Wrap(%d, %d, %t) = %d; want %d", x, size, signed, n, want)
				}
				if want != x {
					want, wantE = 0, api.ErrOver
				}
				if n, e := ints.Fit(x, size, signed); n != want || e != wantE {
					t.Fatalf("Fit(%d, %d, %t) = %d, %d; want %d, %d", x, size, signed, n, e, want, wantE)
				}
			}
		}
	}
}

func TestWrapByHand(t *testing.T) { // 1.2
	for _, x := range []struct {
		x      int64
		size   int
		signed bool
		want   int64
	}{
		{127, 1, true, 127}, {128, 1, true, -128}, {200, 1, true, -56}, {-129, 1, true, 127},
		{255, 1, false, 255}, {256, 1, false, 0}, {-1, 1, false, 255},
		{32767, 2, true, 32767}, {32768, 2, true, -32768}, {-1, 2, false, 65535}, {65536, 2, false, 0},
		{1<<31 - 1, 4, true, 1<<31 - 1}, {1 << 31, 4, true, -1 << 31}, {-1, 4, false, 1<<32 - 1}, {1 << 32, 4, false, 0},
		{least, 4, true, 0}, {most, 4, true, -1},
		{-1, 8, false, -1}, {least, 8, true, least}, {-1, 0, false, -1}, {300, 3, false, 300}, {-300, -1, false, -300},
	} {
		if n := ints.Wrap(x.x, x.size, x.signed); n != x.want {
			t.Errorf("Wrap(%d, %d, %t) = %d; want %d", x.x, x.size, x.signed, n, x.want)
		}
	}
}

// plainSet goes bit by bit, and plainGet too: neither shares a mask with what it judges.
func plainSet(w uint64, at, n int, v uint64) uint64 {
	if at < 0 {
		return w
	}
	for i := 0; i < n && i < 64 && at+i < 64 && at < 64; i++ {
		w &^= 1 << (at + i)
		w |= (v >> i & 1) << (at + i)
	}
	return w
}

func plainGet(w uint64, at, n int) uint64 {
	var g uint64
	if at < 0 {
		return 0
	}
	for i := 0; i < n && i < 64 && at < 64 && at+i < 64; i++ {
		g |= (w >> (at + i) & 1) << i
	}
	return g
}

func TestGetAndSet(t *testing.T) { // 1.2
	values := []uint64{0, 1, 0x9669f00dcafe1235, all}
	for _, w := range words() {
		for _, at := range places() {
			for _, n := range places() {
				if g, want := ints.Get(w, at, n), plainGet(w, at, n); g != want {
					t.Fatalf("Get(%x, %d, %d) = %x; want %x", w, at, n, g, want)
				}
				for _, v := range values {
					if s, want := ints.Set(w, at, n, v), plainSet(w, at, n, v); s != want {
						t.Fatalf("Set(%x, %d, %d, %x) = %x; want %x", w, at, n, v, s, want)
					}
				}
			}
		}
	}
}

func TestGetAndSetByHand(t *testing.T) { // 1.2
	for _, x := range []struct {
		w      uint64
		at, n  int
		get, v uint64
		set    uint64
	}{
		{0xabcd, 4, 8, 0xbc, 0x12, 0xa12d},
		{0xabcd, 0, 4, 0xd, 0xff1, 0xabc1},
		{1, 0, 1, 1, 2, 0},
		{1 << 63, 63, 1, 1, 0, 0},
		{1 << 63, 63, 64, 1, 0, 0},
		{all, 0, 64, all, 7, 7},
		{all, 0, 65, all, 7, 7},
		{all, 60, math.MaxInt, 15, 5, 0x5fffffffffffffff},
		{all, 64, 1, 0, 0, all},
		{all, -1, 64, 0, 0, all},
		{all, 8, 0, 0, 0, all},
		{all, 8, -1, 0, 0, all},
		{all, math.MinInt, math.MaxInt, 0, 0, all},
	} {
		if g := ints.Get(x.w, x.at, x.n); g != x.get {
			t.Errorf("Get(%x, %d, %d) = %x; want %x", x.w, x.at, x.n, g, x.get)
		}
		if s := ints.Set(x.w, x.at, x.n, x.v); s != x.set {
			t.Errorf("Set(%x, %d, %d, %x) = %x; want %x", x.w, x.at, x.n, x.v, s, x.set)
		}
	}
}

func TestTurnKeepsOrder(t *testing.T) { // 1.2
	for _, a := range numbers() {
		for _, b := range numbers() {
			if (ints.Turn(a) < ints.Turn(b)) != (a < b) {
				t.Fatalf("Turn(%d) = %x, Turn(%d) = %x", a, ints.Turn(a), b, ints.Turn(b))
			}
		}
	}
}

func TestText(t *testing.T) { // 1.3
	for x, want := range map[int64]string{
		0: "0", 7: "7", -7: "-7", 10: "10", -100: "-100", 1234567890: "1234567890",
		most: "9223372036854775807", least: "-9223372036854775808",
	} {
		if s := ints.Text(x); s != want {
			t.Errorf("Text(%d) = %q; want %q", x, s, want)
		}
	}
}

func TestParse(t *testing.T) { // 1.3
	for _, x := range []struct {
		s    string
		want int64
		e    api.Errno
	}{
		{"0", 0, api.OK}, {"7", 7, api.OK}, {"-7", -7, api.OK}, {"1234567890", 1234567890, api.OK},
		{"-0", 0, api.OK}, {"00", 0, api.OK}, {"-000", 0, api.OK}, {"007", 7, api.OK}, {"-010", -10, api.OK},
		{strings.Repeat("0", 5000) + "9223372036854775807", most, api.OK},
		{"-" + strings.Repeat("0", 5000) + "9223372036854775808", least, api.OK},
		{"9223372036854775807", most, api.OK}, {"9223372036854775808", 0, api.ErrOver}, {"9223372036854775810", 0, api.ErrOver},
		{"-9223372036854775808", least, api.OK}, {"-9223372036854775809", 0, api.ErrOver}, {"-9223372036854775810", 0, api.ErrOver},
		{"18446744073709551616", 0, api.ErrOver}, {"18446744073709551617", 0, api.ErrOver}, {"-18446744073709551615", 0, api.ErrOver},
		{"0" + strings.Repeat("9", 5000), 0, api.ErrOver}, {"-" + strings.Repeat("1", 20), 0, api.ErrOver},
		{"", 0, api.ErrForm}, {"-", 0, api.ErrForm}, {"--1", 0, api.ErrForm}, {"-+1", 0, api.ErrForm}, {"+1", 0, api.ErrForm}, {"+-1", 0, api.ErrForm},
		{"1-", 0, api.ErrForm}, {"1-1", 0, api.ErrForm}, {" 1", 0, api.ErrForm}, {"1 ", 0, api.ErrForm}, {"- 1", 0, api.ErrForm}, {"1\n", 0, api.ErrForm},
		{"1_0", 0, api.ErrForm}, {"0x10", 0, api.ErrForm}, {"0b1", 0, api.ErrForm}, {"0o7", 0, api.ErrForm}, {"1e3", 0, api.ErrForm}, {"1.0", 0, api.ErrForm}, {"a", 0, api.ErrForm},
		{"1/", 0, api.ErrForm}, {"1:", 0, api.ErrForm}, {"1\x00", 0, api.ErrForm}, {"\x00", 0, api.ErrForm}, {"\xb1", 0, api.ErrForm},
		{"\xff\xfe", 0, api.ErrForm}, {"\u0661\u0662", 0, api.ErrForm}, {"\uff11", 0, api.ErrForm}, {"\u22121", 0, api.ErrForm},
		// The form comes ahead of the bounds.
		{"99999999999999999999x", 0, api.ErrForm}, {"-99999999999999999999-", 0, api.ErrForm}, {"9223372036854775808 ", 0, api.ErrForm},
	} {
		if n, e := ints.Parse(x.s); n != x.want || e != x.e {
			t.Errorf("Parse(%.40q) = %d, %d; want %d, %d", x.s, n, e, x.want, x.e)
		}
	}
}

// Every byte stands alone, ahead of a digit and behind one.
func TestParseEveryByte(t *testing.T) { // 1.3
	for b := range 256 {
		c := string([]byte{byte(b)})
		digit := b >= '0' && b <= '9'
		for _, x := range []struct {
			s    string
			want bool
		}{{c, digit}, {c + "1", digit || c == "-"}, {"1" + c, digit}, {"-" + c, digit}, {"1" + c + "1", digit}} {
			want := api.ErrForm
			if x.want {
				want = api.OK
			}
			if n, e := ints.Parse(x.s); e != want || !x.want && n != 0 {
				t.Errorf("Parse(%q) = %d, %d; want %d", x.s, n, e, want)
			}
		}
	}
}

func TestThereAndBack(t *testing.T) { // 1.4
	for _, x := range numbers() {
		if n := ints.Back(ints.Turn(x)); n != x {
			t.Errorf("Back(Turn(%d)) = %d", x, n)
		}
		if n, e := ints.Parse(ints.Text(x)); n != x || e != api.OK {
			t.Errorf("Parse(Text(%d)) = %d, %d", x, n, e)
		}
	}
	for _, w := range words() {
		if v := ints.Turn(ints.Back(w)); v != w {
			t.Errorf("Turn(Back(%x)) = %x", w, v)
		}
	}
}

func TestSetThenGet(t *testing.T) { // 1.4
	for _, w := range words() {
		for at := range 64 {
			for n := 1; n <= 64-at; n++ {
				for _, v := range words() {
					s := ints.Set(w, at, n, v)
					if g, want := ints.Get(s, at, n), v<<(64-n)>>(64-n); g != want {
						t.Fatalf("Get(Set(%x, %d, %d, %x)) = %x; want %x", w, at, n, v, g, want)
					}
					window := all << (64 - n) >> (64 - n) << at
					if (s^w)&^window != 0 {
						t.Fatalf("Set(%x, %d, %d, %x) = %x: other bits went", w, at, n, v, s)
					}
				}
			}
		}
	}
}

// pairs calls f with whatever a caller may hand in.
func pairs(f func(a, b int64)) {
	for _, a := range numbers() {
		for _, b := range numbers() {
			f(a, b)
		}
	}
}

func TestNoPanic(t *testing.T) { // 1.5
	defer func() {
		if p := recover(); p != nil {
			t.Fatal(p)
		}
	}()
	pairs(func(a, b int64) {
		for _, f := range []twoWay{ints.Add, ints.Sub, ints.Mul, ints.Div, ints.Mod, ints.Shl, ints.Shr} {
			f(a, b)
		}
		ints.Fit(a, int(b), true)
		ints.Fit(a, int(b), false)
		ints.Wrap(a, int(b), true)
		ints.Wrap(a, int(b), false)
		ints.Get(all, int(a), int(b))
		ints.Set(all, int(a), int(b), 1)
	})
	for _, x := range numbers() {
		ints.Neg(x)
		ints.Parse(ints.Text(ints.Back(ints.Turn(x))))
	}
	for a := range 256 {
		for b := range 256 {
			ints.Parse(string([]byte{byte(a), byte(b)}))
		}
	}
}
