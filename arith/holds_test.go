package arith

import (
	"cmp"
	"slices"
	"testing"

	"spinney/api"
)

// holding are the operators that hold between two numbers.
func holding(m, n int64) []string {
	switch cmp.Compare(m, n) {
	case -1:
		return []string{"=\\=", "<", "=<"}
	case 1:
		return []string{"=\\=", ">", ">="}
	}
	return []string{"=:=", "=<", ">="}
}

// P11.2
func TestHolds(t *testing.T) {
	b := []api.Bind{to(0, i(2)), to(1, v(0)), to(2, f("-", v(0), i(3)))}
	for _, x := range []struct {
		op    string
		x, y  api.Term
		holds bool
	}{
		{"=:=", i(1), i(2), false}, {"=:=", i(2), i(2), true}, {"=:=", i(3), i(2), false},
		{"=\\=", i(1), i(2), true}, {"=\\=", i(2), i(2), false}, {"=\\=", i(3), i(2), true},
		{"<", i(1), i(2), true}, {"<", i(2), i(2), false}, {"<", i(3), i(2), false},
		{"=<", i(1), i(2), true}, {"=<", i(2), i(2), true}, {"=<", i(3), i(2), false},
		{">", i(1), i(2), false}, {">", i(2), i(2), false}, {">", i(3), i(2), true},
		{">=", i(1), i(2), false}, {">=", i(2), i(2), true}, {">=", i(3), i(2), true},
		{"=:=", v(0), v(1), true}, {"<", v(2), v(1), true}, {">", v(2), i(-1), false}, {">=", v(2), i(-1), true}, {"=:=", f("+", v(0), v(2)), i(1), true}, {"=\\=", f("*", v(0), v(1)), i(4), false},
		// Values are held against each other, not the terms.
		{"=:=", f("+", i(1), i(2)), f("+", i(2), i(1)), true}, {"<", f("+", i(1), i(1)), i(3), true}, {">", i(3), f("abs", i(-9)), false},
	} {
		if is, e := Holds(b, x.op, x.x, x.y); is != x.holds || e != api.OK {
			t.Errorf("%s %s %s: got %t, %d", picture(x.x), x.op, picture(x.y), is, e)
		}
	}
}

// P11.2: also where their difference is over.
func TestHoldsOfSamples(t *testing.T) {
	for _, m := range samples() {
		for _, n := range samples() {
			want := holding(m, n)
			for _, op := range comparisons() {
				if is, e := Holds(nil, op, i(m), i(n)); is != slices.Contains(want, op) || e != api.OK {
					t.Errorf("%d %s %d: got %t, %d", m, op, n, is, e)
				}
			}
		}
	}
}

// P11.2: that it is no operator is told ahead of all else.
func TestHoldsOfNoOperator(t *testing.T) {
	b, terms := wrong()
	for _, op := range []string{"", "=", "==", "\\=", "\\==", "=/=", "!=", "<=", "=>", "=>=", "<>", "<<", ">>", "=:", ":=", "=:=:", "=\\", "\\=\\", "@<", "@=<", "@>", "@>=", "is", "+", "-", "abs", "< ", " <", "\x00", "\xff", "=\\=\x00", "＜"} {
		for _, x := range terms {
			for _, y := range terms {
				if is, e := Holds(b, op, x, y); is || e != api.ErrArg {
					t.Errorf("%q of what is wrong: got %t, %d", op, is, e)
				}
			}
			if is, e := Holds(b, op, i(1), x); is || e != api.ErrArg {
				t.Errorf("%q: got %t, %d", op, is, e)
			}
		}
		for _, n := range []int64{0, 1, 2} {
			if is, e := Holds(nil, op, i(1), i(n)); is || e != api.ErrArg {
				t.Errorf("1 %q %d: got %t, %d", op, n, is, e)
			}
		}
	}
}

// P11.2: from left to right, with nothing beside the error.
func TestHoldsErrors(t *testing.T) {
	b, terms := wrong()
	for _, op := range comparisons() {
		for first, x := range terms {
			for _, y := range terms {
				if is, e := Holds(b, op, x, y); is || e != first {
					t.Errorf("%s %s %s: got %t, %d, want %d", picture(x), op, picture(y), is, e, first)
				}
			}
			for _, n := range []int64{low, 0, top} {
				if is, e := Holds(b, op, i(n), x); is || e != first {
					t.Errorf("%d %s %s: got %t, %d, want %d", n, op, picture(x), is, e, first)
				}
				if is, e := Holds(b, op, x, i(n)); is || e != first {
					t.Errorf("%s %s %d: got %t, %d, want %d", picture(x), op, n, is, e, first)
				}
			}
		}
	}
}

// P11.2: each side stands in no others, and is reckoned by itself.
func TestHoldsDepth(t *testing.T) {
	b := chain(0, 2000, i(1))
	for _, op := range comparisons() {
		want := slices.Contains(holding(-1, -1), op)
		if is, e := Holds(b, op, under(59, v(0)), under(59, v(0))); is != want || e != api.OK {
			t.Errorf("%s: got %t, %d", op, is, e)
		}
		if is, e := Holds(b, op, under(59, v(0)), under(60, v(0))); is || e != api.ErrDeep {
			t.Errorf("%s: got %t, %d", op, is, e)
		}
		if is, e := Holds(b, op, under(60, v(0)), under(59, v(0))); is || e != api.ErrDeep {
			t.Errorf("%s: got %t, %d", op, is, e)
		}
	}
}
