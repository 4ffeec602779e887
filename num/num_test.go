package num

import (
	"math"
	"math/big"
	"strings"
	"testing"

	"spinney/api"
)

const (
	top = math.MaxInt64
	low = math.MinInt64
)

// samples are small numbers, and those around the edges where something may be over.
func samples() []int64 {
	var out []int64
	for n := int64(-12); n <= 12; n++ {
		out = append(out, n)
	}
	for _, mid := range []int64{1 << 31, 1 << 32, 3037000500, 1 << 62, top / 2, top / 3, top / 10} {
		for d := int64(-2); d <= 2; d++ {
			out = append(out, mid+d, -mid+d)
		}
	}
	for d := int64(0); d <= 3; d++ {
		out = append(out, top-d, low+d)
	}
	return out
}

// number is n, or ErrOver, if it has not 64 bits.
func number(n *big.Int) (int64, api.Errno) {
	if !n.IsInt64() {
		return 0, api.ErrOver
	}
	return n.Int64(), api.OK
}

type reckoning func(a, b int64) (int64, api.Errno)

type row struct {
	a, b, n int64
	e       api.Errno
}

func checkRows(t *testing.T, name string, f reckoning, rows []row) {
	t.Helper()
	for _, x := range rows {
		if n, e := f(x.a, x.b); n != x.n || e != x.e {
			t.Errorf("%s(%d, %d): got %d, %d, want %d, %d", name, x.a, x.b, n, e, x.n, x.e)
		}
	}
}

// checkAll holds f against wide, which reckons without bounds.
func checkAll(t *testing.T, name string, f reckoning, wide func(a, b *big.Int) *big.Int, byZero bool) {
	t.Helper()
	for _, a := range samples() {
		for _, b := range samples() {
			n, e := f(a, b)
			if b == 0 && byZero {
				if n != 0 || e != api.ErrZero {
					t.Errorf("%s(%d, 0): got %d, %d", name, a, n, e)
				}
				continue
			}
			want, wantE := number(wide(big.NewInt(a), big.NewInt(b)))
			if n != want || e != wantE {
				t.Errorf("%s(%d, %d): got %d, %d, want %d, %d", name, a, b, n, e, want, wantE)
			}
		}
	}
}

// P1.1
func TestAddSubMul(t *testing.T) {
	checkRows(t, "Add", Add, []row{
		{2, 3, 5, api.OK}, {2, -3, -1, api.OK}, {top, 0, top, api.OK}, {top, low, -1, api.OK}, {low, top, -1, api.OK},
		{top - 1, 1, top, api.OK}, {low + 1, -1, low, api.OK},
		{top, 1, 0, api.ErrOver}, {1, top, 0, api.ErrOver}, {low, -1, 0, api.ErrOver}, {-1, low, 0, api.ErrOver},
		{top, top, 0, api.ErrOver}, {low, low, 0, api.ErrOver},
	})
	checkRows(t, "Sub", Sub, []row{
		{5, 3, 2, api.OK}, {3, 5, -2, api.OK}, {-1, low, top, api.OK}, {low, low, 0, api.OK}, {low, 0, low, api.OK}, {-1, top, low, api.OK},
		{low, 1, 0, api.ErrOver}, {0, low, 0, api.ErrOver}, {top, -1, 0, api.ErrOver}, {-2, top, 0, api.ErrOver},
	})
	checkRows(t, "Mul", Mul, []row{
		{3, -4, -12, api.OK}, {low, 1, low, api.OK}, {1, low, low, api.OK}, {low, 0, 0, api.OK}, {0, low, 0, api.OK}, {top, -1, -top, api.OK}, {-1, top, -top, api.OK},
		{-1 << 32, 1 << 31, low, api.OK}, {1 << 31, -1 << 32, low, api.OK},
		{1 << 32, 1 << 31, 0, api.ErrOver}, {low, -1, 0, api.ErrOver}, {-1, low, 0, api.ErrOver}, {low, low, 0, api.ErrOver}, {1 << 32, 1 << 32, 0, api.ErrOver},
	})
	checkAll(t, "Add", Add, func(a, b *big.Int) *big.Int { return a.Add(a, b) }, false)
	checkAll(t, "Sub", Sub, func(a, b *big.Int) *big.Int { return a.Sub(a, b) }, false)
	checkAll(t, "Mul", Mul, func(a, b *big.Int) *big.Int { return a.Mul(a, b) }, false)
}

// P1.1
func TestNegAbs(t *testing.T) {
	for _, a := range samples() {
		want, wantE := number(new(big.Int).Neg(big.NewInt(a)))
		if n, e := Neg(a); n != want || e != wantE {
			t.Errorf("Neg(%d): got %d, %d, want %d, %d", a, n, e, want, wantE)
		}
		want, wantE = number(new(big.Int).Abs(big.NewInt(a)))
		if n, e := Abs(a); n != want || e != wantE {
			t.Errorf("Abs(%d): got %d, %d, want %d, %d", a, n, e, want, wantE)
		}
	}
	for name, f := range map[string]func(int64) (int64, api.Errno){"Neg": Neg, "Abs": Abs} {
		if n, e := f(low); n != 0 || e != api.ErrOver {
			t.Errorf("%s(-2^63): got %d, %d", name, n, e)
		}
	}
}

// P1.1
func TestSignCmp(t *testing.T) {
	for a, want := range map[int64]int64{low: -1, -5: -1, -1: -1, 0: 0, 1: 1, 5: 1, top: 1} {
		if got := Sign(a); got != want {
			t.Errorf("Sign(%d): got %d, want %d", a, got, want)
		}
	}
	for _, a := range samples() {
		for _, b := range samples() {
			if got, want := Cmp(a, b), big.NewInt(a).Cmp(big.NewInt(b)); got != want {
				t.Errorf("Cmp(%d, %d): got %d, want %d", a, b, got, want)
			}
		}
	}
}

// P1.2
func TestQuoRemMod(t *testing.T) {
	checkRows(t, "Quo", Quo, []row{
		{7, 2, 3, api.OK}, {-7, 2, -3, api.OK}, {7, -2, -3, api.OK}, {-7, -2, 3, api.OK}, {0, 5, 0, api.OK}, {3, 5, 0, api.OK}, {low, 1, low, api.OK}, {low, low, 1, api.OK}, {top, low, 0, api.OK}, {top, -1, -top, api.OK},
		{7, 0, 0, api.ErrZero}, {0, 0, 0, api.ErrZero}, {low, 0, 0, api.ErrZero}, {low, -1, 0, api.ErrOver},
	})
	checkRows(t, "Rem", Rem, []row{
		{7, 2, 1, api.OK}, {-7, 2, -1, api.OK}, {7, -2, 1, api.OK}, {-7, -2, -1, api.OK}, {6, -2, 0, api.OK}, {low, -1, 0, api.OK}, {top, -1, 0, api.OK}, {low, top, -1, api.OK}, {top, low, top, api.OK},
		{1, 0, 0, api.ErrZero}, {0, 0, 0, api.ErrZero}, {low, 0, 0, api.ErrZero},
	})
	checkRows(t, "Mod", Mod, []row{
		{7, 2, 1, api.OK}, {-7, 2, 1, api.OK}, {7, -2, -1, api.OK}, {-7, -2, -1, api.OK}, {6, -2, 0, api.OK}, {-6, 2, 0, api.OK}, {low, -1, 0, api.OK}, {low, top, top - 1, api.OK}, {top, low, -1, api.OK},
		{1, 0, 0, api.ErrZero}, {0, 0, 0, api.ErrZero}, {low, 0, 0, api.ErrZero},
	})
	checkAll(t, "Quo", Quo, func(a, b *big.Int) *big.Int { return a.Quo(a, b) }, true)
	checkAll(t, "Rem", Rem, func(a, b *big.Int) *big.Int { return a.Rem(a, b) }, true)
	checkAll(t, "Mod", Mod, wideMod, true)
}

// wideMod goes by the words of P1.2, where big's own Mod never answers a number below 0.
func wideMod(a, b *big.Int) *big.Int {
	m := new(big.Int).Mod(a, b)
	if m.Sign() > 0 && b.Sign() < 0 {
		m.Add(m, b)
	}
	return m
}

// P1.3
func TestText(t *testing.T) {
	for n, want := range map[int64]string{0: "0", 7: "7", -1: "-1", -12: "-12", 100: "100", top: "9223372036854775807", low: "-9223372036854775808"} {
		if got := Text(n); got != want {
			t.Errorf("Text(%d): got %q, want %q", n, got, want)
		}
	}
	for _, n := range samples() {
		if got, want := Text(n), big.NewInt(n).String(); got != want {
			t.Errorf("Text(%d): got %q, want %q", n, got, want)
		}
	}
}

// P1.3
func TestReadNumbers(t *testing.T) {
	noughts := strings.Repeat("0", 5000)
	for s, want := range map[string]int64{
		"0": 0, "-0": 0, "00": 0, "-000": 0, "7": 7, "-7": -7, "-007": -7, "0010": 10, "1234567890": 1234567890,
		"9223372036854775807": top, "-9223372036854775807": -top, "-9223372036854775808": low,
		"09223372036854775807": top, "-0009223372036854775808": low,
		noughts: 0, noughts + "42": 42, "-" + noughts + "42": -42, noughts + "9223372036854775807": top,
	} {
		if got, e := Read(s); got != want || e != api.OK {
			t.Errorf("Read(%q): got %d, %d, want %d", s, got, e, want)
		}
	}
}

// P1.3
func TestReadWrong(t *testing.T) {
	for want, texts := range map[api.Errno][]string{
		api.ErrChar: {
			"", "-", "--", "--1", "+", "+1", "-+1", "1-", "1-2", "1a", "a1", "a", " 1", "1 ", "- 1", "1\n", "\x001", "1\x00", ".", "1.0", "1e3", "0x1f", "1_000", "1,000", "/", ":", "1/", "1:",
			"\xff", "1\xff", "-\xff", "\u0661", "1\u0661", "\uff11", "\u00b2", "\u22121", "\ufffd",
			"9223372036854775808a", "-9223372036854775809 ", "99999999999999999999-", strings.Repeat("9", 5000) + "x",
		},
		api.ErrOver: {
			"9223372036854775808", "-9223372036854775809", "9223372036854775810", "-9223372036854775810", "09223372036854775808",
			"10000000000000000000", "18446744073709551616", "18446744073709551617", "-18446744073709551617", "99999999999999999999", "-99999999999999999999",
			"9223372036854775808000", "92233720368547758080", strings.Repeat("9", 5000), "1" + strings.Repeat("0", 5000), "-1" + strings.Repeat("0", 5000),
		},
	} {
		for _, s := range texts {
			if n, e := Read(s); n != 0 || e != want {
				t.Errorf("Read(%q): got %d, %d, want 0, %d", s, n, e, want)
			}
		}
	}
}

// P1.4
func TestReadOfText(t *testing.T) {
	for _, n := range samples() {
		if got, e := Read(Text(n)); got != n || e != api.OK {
			t.Errorf("Read(Text(%d)): got %d, %d", n, got, e)
		}
	}
}

// P1.4
func TestSubUndoesAdd(t *testing.T) {
	for _, a := range samples() {
		for _, b := range samples() {
			sum, e := Add(a, b)
			if e != api.OK {
				continue
			}
			if back, e := Sub(sum, b); back != a || e != api.OK {
				t.Errorf("Sub(Add(%d, %d), %d): got %d, %d", a, b, b, back, e)
			}
		}
	}
}

// P1.4
func TestQuoRemModAgree(t *testing.T) {
	for _, a := range samples() {
		for _, b := range samples() {
			if b == 0 {
				continue
			}
			r, e1 := Rem(a, b)
			m, e2 := Mod(a, b)
			if e1 != api.OK || e2 != api.OK || r != m && r+b != m {
				t.Errorf("Rem, Mod of %d, %d: got %d, %d and %d, %d", a, b, r, e1, m, e2)
			}
			q, e := Quo(a, b)
			if e != api.OK {
				continue
			}
			product, e1 := Mul(b, q)
			sum, e2 := Add(product, r)
			if e1 != api.OK || e2 != api.OK || sum != a {
				t.Errorf("%d times Quo, and Rem, of %d: got %d, %d, %d", b, a, sum, e1, e2)
			}
		}
	}
}

// P1.3, P1.4: whatever the text is, Read tells what the words of P1.3 tell.
func FuzzRead(f *testing.F) {
	for _, s := range []string{"", "-", "-007", "9223372036854775808", "12\xff", "--1"} {
		f.Add(s)
	}
	f.Fuzz(func(t *testing.T, s string) {
		digits := strings.TrimPrefix(s, "-")
		want, wantE := int64(0), api.ErrChar
		if digits != "" && strings.Trim(digits, "0123456789") == "" {
			wide, _ := new(big.Int).SetString(s, 10)
			want, wantE = number(wide)
		}
		if n, e := Read(s); n != want || e != wantE {
			t.Errorf("Read(%q): got %d, %d, want %d, %d", s, n, e, want, wantE)
		}
	})
}
