package unify

import (
	"slices"
	"testing"

	"spinney/api"
	"spinney/term"
)

// checkCompare holds how two terms compare, and turned round.
func checkCompare(t *testing.T, b []api.Bind, x, y api.Term, want int) {
	t.Helper()
	if got, e := Compare(b, x, y); got != want || e != api.OK {
		t.Errorf("Compare: got %d, %d, want %d", got, e, want)
	}
	if got, e := Compare(b, y, x); got != -want || e != api.OK {
		t.Errorf("Compare turned round: got %d, %d, want %d", got, e, -want)
	}
}

// checkCompareLong holds that two terms take too many steps to be compared, whichever is first.
func checkCompareLong(t *testing.T, b []api.Bind, x, y api.Term) {
	t.Helper()
	if got, e := Compare(b, x, y); got != 0 || e != api.ErrSteps {
		t.Errorf("Compare: got %d, %d", got, e)
	}
	if got, e := Compare(b, y, x); got != 0 || e != api.ErrSteps {
		t.Errorf("Compare turned round: got %d, %d", got, e)
	}
}

// checkOrder holds that each of these is ahead of all behind it, also where each stands in Comps, and by bindings.
func checkOrder(t *testing.T, l ...api.Term) {
	t.Helper()
	b := []api.Bind{to(7000, a("zz"))}
	for k, x := range l {
		b = append(b, to(8000+int64(k), x), to(9000+int64(k), v(8000+int64(k))))
	}
	for k, x := range l {
		for m, y := range l {
			want := 0
			if k < m {
				want = -1
			} else if k > m {
				want = 1
			}
			checkCompare(t, nil, x, y, want)
			checkCompare(t, b, v(8000+int64(k)), y, want)
			checkCompare(t, b, v(8000+int64(k)), v(9000+int64(m)), want)
			checkCompare(t, nil, f("f", x), f("f", y), want)
			checkCompare(t, nil, f("f", a("a"), x, a("x")), f("f", a("a"), y, a("a")), first(want, 1))
			checkCompare(t, b, f("f", f("g", v(9000+int64(k))), i(1)), f("f", f("g", y), i(2)), first(want, -1))
			if got := term.Compare(x, y); got != want {
				t.Errorf("the list is not in the standard order: %s, %s", picture(x), picture(y))
			}
		}
	}
}

// first is the first of two that is not 0.
func first(one, other int) int {
	if one != 0 {
		return one
	}
	return other
}

// P10.2
func TestCompareKinds(t *testing.T) {
	checkOrder(t, v(0), v(5), i(-1), i(9), a(""), a("a"), f("a", a("a")), f("b", v(0)), f("a", v(0), v(0)))
	checkOrder(t, v(top), i(low), a(""), f("", v(0)))
	checkOrder(t, v(200), i(0), a("0"), f("0", i(0)))
}

// P10.2
func TestCompareVarsAndInts(t *testing.T) {
	all := numbers()
	slices.Sort(all)
	var vars, ints []api.Term
	for _, n := range all {
		vars, ints = append(vars, v(n)), append(ints, i(n))
	}
	checkOrder(t, vars...)
	checkOrder(t, ints...)
}

// P10.2: byte by byte, a beginning of another Name ahead of it.
func TestCompareAtoms(t *testing.T) {
	checkOrder(t, a(""), a("\x01"), a(" "), a("!"), a("10"), a("9"), a("A"), a("B"), a("Z"), a("[]"), a("_"), a("a"), a("a "), a("aA"), a("aa"), a("ab"), a("b"), a("z"), a("\x7f"), a("é"), a("\uffff"), a("\U00010000"))
}

// P10.2: of Comps how many Args, then the Name, then the Args from the first on.
func TestCompareComps(t *testing.T) {
	checkOrder(t, f("z", a("z")), f("a", v(0), v(0)), f("b", v(0), v(0)), f("a", v(0), v(0), v(0)), f("a", slices.Repeat([]api.Term{v(0)}, 15)...), f("Z", slices.Repeat([]api.Term{v(0)}, 16)...))
	checkOrder(t, f("", f("g", v(0))), f("F", f("g", v(0))), f("f", v(9)), f("f", i(0)), f("f", a("a")), f("f", f("a", v(0))), f("f ", v(0)), f("ff", v(0)), f("g", v(0)), f("é", v(0)))
	checkOrder(t, f("f", i(1), i(1), i(1)), f("f", i(1), i(1), i(2)), f("f", i(1), i(2), i(1)), f("f", i(1), i(2), i(2)), f("f", i(2), i(1), i(1)), f("f", i(2), a("a"), v(0)), f("f", a("a"), v(0), v(0)))
	checkOrder(t, f("f", f("g", i(1), i(2)), i(9)), f("f", f("g", i(2), i(1)), i(3)), f("f", f("g", i(2), i(1)), i(4)), f("f", f("h", i(0), i(0)), i(0)), f("f", f("a", i(0), i(0), i(0)), i(0)))
	checkOrder(t, list(), list(i(1)), list(i(1), i(1)), list(i(1), i(1), i(1)), list(i(1), i(2)), list(i(2)))
	checkOrder(t, under(200, a("a")), under(200, a("b")), under(200, f("a", i(1))), under(200, f("r", i(1))), under(201, i(1)), under(201, a("b")))
}

// P10.2: through bindings, of which, of one Var, the last one counts; Vars that are not bound go by their numbers.
func TestCompareThroughBindings(t *testing.T) {
	b := []api.Bind{to(0, i(5)), to(1, v(0)), to(2, f("f", v(1), v(9))), to(3, v(2)), to(4, v(8)), to(6, i(1)), to(6, a("z")), to(-1, v(6))}
	for _, x := range []struct {
		x, y api.Term
		want int
	}{
		{v(0), i(5), 0}, {v(1), i(5), 0}, {v(0), v(1), 0}, {v(1), i(6), -1}, {v(1), i(4), 1}, {v(1), a("a"), -1}, {v(0), v(100), 1}, {v(6), a("z"), 0}, {v(-1), v(6), 0}, {v(6), i(1), 1}, {v(6), v(0), 1},
		{v(3), v(2), 0}, {v(3), f("f", i(5), v(9)), 0}, {v(3), f("f", v(0), v(8)), 1}, {v(3), f("f", v(0), v(10)), -1}, {v(3), f("f", i(4), v(100)), 1}, {v(2), f("e", v(0), v(9)), 1}, {v(2), f("z", a("a")), 1},
		{v(4), v(8), 0}, {v(4), v(7), 1}, {v(4), v(9), -1}, {v(5), v(4), -1}, {v(7), v(4), -1},
		{f("g", v(0), v(4)), f("g", v(1), v(8)), 0}, {f("g", v(1), a("a")), f("g", v(0), a("b")), -1}, {f("g", v(3), a("b")), f("g", f("f", v(0), v(9)), a("a")), 1},
	} {
		checkCompare(t, b, x.x, x.y, x.want)
		checkCompare(t, append(b, to(300, v(301))), x.x, x.y, x.want)
	}
	// Compare binds nothing: the same Var stands for the same, two others stay others.
	checkCompare(t, nil, f("f", v(0), v(0)), f("f", v(0), v(1)), -1)
	checkCompare(t, nil, f("f", v(0), v(1)), f("f", v(1), v(0)), -1)
	checkCompare(t, nil, f("f", v(3), v(3)), f("f", v(3), v(3)), 0)
}

// R1, P10.2: terms that may not be are compared, too: by what the words name of their kind, and turned round.
func TestCompareOthers(t *testing.T) {
	all := append(others(), v(0), v(1), v(-1), api.Term{Kind: api.Var, Name: "X", N: 1, Args: []api.Term{a("a")}})
	for _, x := range all {
		checkCompare(t, nil, x, x, 0)
		for _, y := range all {
			got, e := Compare(nil, x, y)
			if e != api.OK || got < -1 || got > 1 {
				t.Errorf("Compare of %s and %s: got %d, %d", picture(x), picture(y), got, e)
			}
			checkCompare(t, nil, x, y, got)
		}
	}
	checkCompare(t, nil, api.Term{Kind: api.Var, Name: "X", N: 1}, api.Term{Kind: api.Var, Name: "A", N: 2}, -1)
	checkCompare(t, nil, api.Term{Kind: api.Int, Name: "X", N: 1}, api.Term{Kind: api.Int, Name: "A", N: 2}, -1)
	checkCompare(t, nil, api.Term{Kind: api.Atom, Name: "a", N: 2}, api.Term{Kind: api.Atom, Name: "b", N: 1}, -1)
	checkCompare(t, nil, api.Term{Kind: api.Comp, Name: "a", N: 2, Args: []api.Term{v(0)}}, api.Term{Kind: api.Comp, Name: "b", N: 1, Args: []api.Term{v(0)}}, -1)
	checkCompare(t, nil, f("f"), f("a", v(0)), -1)
	checkCompare(t, nil, f("f"), f("g"), -1)
	checkCompare(t, nil, v(-2), v(-1), -1)
}
