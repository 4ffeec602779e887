package unify

import (
	"runtime/debug"
	"slices"
	"testing"

	"spinney/api"
)

// chain binds the Vars from first on, so many of them, each one to the next, the last one to end.
func chain(first int64, count int, end api.Term) []api.Bind {
	var out []api.Bind
	for n := range int64(count) {
		out = append(out, to(first+n, v(first+n+1)))
	}
	if count > 0 {
		out[count-1].To = end
	}
	return out
}

// ring binds so many Vars from first on, each one to the next, the last one to the first.
func ring(first int64, count int) []api.Bind { return chain(first, count, v(first)) }

// wide is a Comp of so many Args, the last one of which is that.
func wide(count int, last api.Term) api.Term {
	args := slices.Repeat([]api.Term{a("a")}, count)
	args[count-1] = last
	return f("w", args...)
}

// checkBoth holds that two terms are the same, so that they are made one by no bindings, and compared as 0.
func checkBoth(t *testing.T, b []api.Bind, x, y api.Term) {
	t.Helper()
	checkUnify(t, b, x, y)
	checkCompare(t, b, x, y, 0)
}

// checkBothLong holds that two terms take too many steps, to be made one and to be compared.
func checkBothLong(t *testing.T, b []api.Bind, x, y api.Term) {
	t.Helper()
	checkLong(t, b, x, y)
	checkCompareLong(t, b, x, y)
}

// checkBothAhead holds that two terms can't be one, and that the first is ahead.
func checkBothAhead(t *testing.T, b []api.Bind, x, y api.Term) {
	t.Helper()
	checkClash(t, b, x, y)
	checkCompare(t, b, x, y, -1)
}

// P10.1, P10.2: just 2000 terms are met, those of both terms together: 2 and 2 more an Arg.
func TestStepsOfTerms(t *testing.T) {
	for _, count := range []int{1, 500, 998, 999} {
		checkBoth(t, nil, wide(count, a("a")), wide(count, a("a")))
		checkBothAhead(t, nil, wide(count, a("a")), wide(count, a("b")))
		checkUnify(t, nil, wide(count, v(0)), wide(count, a("b")), to(0, a("b")))
		checkUnify(t, nil, wide(count, v(0)), wide(count, v(1)), to(1, v(0)))
		// Of what a Var is bound to no part is met.
		checkUnify(t, nil, wide(count, v(0)), wide(count, wide(5000, v(1))), to(0, wide(5000, v(1))))
		checkBoth(t, nil, under(count, a("a")), under(count, a("a")))
		checkBothAhead(t, nil, under(count, a("a")), under(count, a("b")))
		checkBothAhead(t, nil, under(count, i(1)), under(count+5000, i(1)))
	}
	for _, count := range []int{1000, 1001, 5000} {
		for _, last := range []api.Term{a("a"), a("b"), i(1), f("f")} {
			checkBothLong(t, nil, wide(count, a("a")), wide(count, last))
			checkBothLong(t, nil, under(count, a("a")), under(count, last))
		}
		checkBothLong(t, nil, wide(count, v(0)), wide(count, v(1)))
		checkBothLong(t, nil, under(count, v(0)), under(count, v(0)))
	}
	// 40 Comps of 24 Args each on either side are 2002 terms; one Arg less in the last one, and they are 2000.
	many := slices.Repeat([]api.Term{wide(24, a("a"))}, 39)
	checkBoth(t, nil, f("f", append(many, wide(23, a("a")))...), f("f", append(many, wide(23, a("a")))...))
	checkBothLong(t, nil, f("f", append(many, wide(24, a("a")))...), f("f", append(many, wide(24, a("a")))...))
}

// P10.1, P10.2: each binding that is followed is a step, in the first term and in the second one.
func TestStepsOfBindings(t *testing.T) {
	for _, end := range []api.Term{a("a"), v(5000), f("f")} {
		for _, count := range []int{0, 1, 1000, 1997, 1998} {
			checkBoth(t, chain(0, count, end), start(count, end), end)
			checkBoth(t, chain(0, count, end), v(3000), v(3000))
		}
		for _, count := range []int{1999, 2000, 2001, 3000} {
			checkBothLong(t, chain(0, count, end), v(0), end)
			checkBothLong(t, chain(0, count, end), v(0), a("other"))
			checkBoth(t, chain(0, count, end), v(int64(count-1998)), end)
			checkBothLong(t, chain(0, count, end), v(int64(count-1999)), end)
		}
		// Both sides have a chain; together they are 1998 bindings, then one more.
		for _, count := range []int{1, 2, 999, 1997} {
			b := append(chain(0, count, end), chain(10000, 1999-count, end)...)
			checkBoth(t, b, v(0), v(10001))
			checkBothLong(t, b, v(0), v(10000))
			if count > 1 {
				checkBoth(t, b, v(1), v(10000))
			}
		}
	}
	checkUnify(t, chain(0, 1998, v(5000)), v(0), a("a"), to(5000, a("a")))
	checkUnify(t, chain(0, 1998, v(5000)), v(0), v(6000), to(6000, v(5000)))
	checkClash(t, chain(0, 1998, a("a")), v(0), a("b"))
	checkLong(t, chain(0, 1999, v(5000)), v(0), v(6000))
}

// start is the Var that a chain from 0 on begins with, or the end of one that has no Vars.
func start(count int, end api.Term) api.Term {
	if count == 0 {
		return end
	}
	return v(0)
}

// P10.1, P10.2: terms and bindings are counted together, however often they were met.
func TestStepsTogether(t *testing.T) {
	// The Comps are 2, each Var with its chain and the Atom beside it 111: 18 of them are 1998 steps.
	b := chain(0, 109, a("a"))
	vars := func(count int) api.Term { return f("f", slices.Repeat([]api.Term{v(0)}, count)...) }
	atoms := func(count int) api.Term { return f("f", slices.Repeat([]api.Term{a("a")}, count)...) }
	checkBoth(t, b, vars(17), atoms(17))
	checkBoth(t, b, vars(18), atoms(18))
	checkBothLong(t, b, vars(19), atoms(19))
	checkBothLong(t, append(chain(-1, 1, v(0)), b...), f("f", append(vars(17).Args, v(-1))...), atoms(18))
	checkBothLong(t, append(chain(-1, 1, v(0)), b...), f("f", append([]api.Term{v(-1)}, vars(17).Args...)...), atoms(18))
	checkBothLong(t, b, f("f", append(vars(18).Args, a("a"))...), atoms(19))
	checkBothAhead(t, b, f("f", append(vars(17).Args, v(0))...), f("f", append(atoms(17).Args, a("b"))...))
	checkBothLong(t, b, f("f", append(vars(18).Args, v(0))...), f("f", append(atoms(18).Args, a("b"))...))
	// Either side has chains: 9 of these Args are 1982 steps, and the Comps are 2.
	checkBoth(t, b, f("f", vars(9).Args...), f("f", vars(9).Args...))
	checkBoth(t, b, f("f", append(vars(9).Args, v(93))...), f("f", append(vars(9).Args, a("a"))...))
	checkBothLong(t, b, f("f", append(vars(9).Args, v(92))...), f("f", append(vars(9).Args, a("a"))...))
	checkBothLong(t, b, f("f", append(vars(9).Args, a("a"))...), f("f", append(vars(9).Args, v(92))...))
	// Bindings that the call itself made are followed, too: the Comps are 2, the first Args 2, all others 4 each.
	again := func(count int) (api.Term, api.Term) {
		return f("f", slices.Repeat([]api.Term{v(0)}, count)...), f("f", slices.Repeat([]api.Term{v(1)}, count)...)
	}
	x, y := again(666)
	checkUnify(t, nil, x, y, to(1, v(0)))
	x, y = again(667)
	checkLong(t, nil, x, y)
}

// P10.1, P10.2: a ring of bindings never ends, on whichever side it is, whether one comes into it from outside or not.
func TestRings(t *testing.T) {
	for _, count := range []int{1, 2, 3, 1000, 2001} {
		b := append(ring(0, count), to(-1, v(0)), to(-2, v(-1)), to(-3, f("f", v(0))), to(-4, a("a")))
		for _, n := range []int64{0, int64(count) - 1, -1, -2} {
			for _, x := range []api.Term{v(n), v(0), v(-4), v(9000), a("a"), f("f", v(n)), none} {
				checkBothLong(t, b, v(n), x)
			}
			checkBothLong(t, b, f("f", v(n)), v(-3))
			checkUnify(t, b, v(9000), f("f", v(n)), to(9000, f("f", v(n))))
			checkBothAhead(t, b, v(-4), f("f", v(n)))
			checkBothAhead(t, b, f("f", i(1), v(n)), f("f", a("a"), v(n)))
		}
		checkBoth(t, append(b, to(0, a("a"))), v(-2), v(-4))
	}
}

// P10.1, P10.2: nor do terms that stand in themselves, where both sides go on; a Var of them is walked, and so is no longer the
// same Var.
func TestTermsInThemselves(t *testing.T) {
	b := []api.Bind{to(0, f("s", v(0))), to(1, f("s", v(1))), to(2, f("g", v(2), a("a"))), to(3, f("g", v(3), a("b"))), to(4, f("g", a("a"), v(4))), to(5, f("g", a("b"), v(5)))}
	checkBothLong(t, b, v(0), v(1))
	checkBothLong(t, b, v(0), v(0))
	checkBothLong(t, b, v(0), f("s", v(0)))
	checkBothLong(t, b, v(2), v(3))
	checkBothAhead(t, b, v(4), v(5))
	checkBothAhead(t, b, under(100, a("a")), under(100, v(0)))
	// A Var, its binding and the other side are three steps a level: 1998 for 666 pairs.
	checkClash(t, b, v(0), under(665, a("a")))
	checkCompare(t, b, v(0), under(665, a("a")), 1)
	checkBothLong(t, b, v(0), under(666, a("a")))
	checkLong(t, nil, f("h", v(0), v(0)), f("h", f("f", v(0)), v(0)))
	checkLong(t, nil, f("h", v(0), v(1), v(0)), f("h", f("f", v(0)), f("f", v(1)), v(1)))
}

// P10.1, P10.2: what is met first tells, that two terms are others or that there were too many steps.
func TestFirstTells(t *testing.T) {
	long, loop := wide(1000, a("a")), ring(0, 2)
	for _, x := range []struct{ x, y api.Term }{
		{f("f", a("a"), long), f("f", a("b"), long)}, {f("f", a("a"), v(0)), f("f", a("b"), v(0))}, {f("f", f("g", a("x"), a("a")), v(0)), f("f", f("g", a("x"), a("b")), v(0))},
		{f("f", long), f("g", v(0))}, {f("f", v(0)), f("f", v(0), v(0))}, {wide(5000, a("a")), f("z", wide(5000, a("a")).Args...)}, {f("f", f("g", v(0)), v(0)), f("f", f("h", v(0)), v(0))},
		{f("f", i(1), v(0)), f("f", i(2), long)}, {f("f", i(1), long), f("f", a("1"), v(0))},
	} {
		checkBothAhead(t, loop, x.x, x.y)
	}
	for _, x := range []struct{ x, y api.Term }{
		{f("f", long, a("a")), f("f", long, a("b"))}, {f("f", v(0), a("a")), f("f", v(0), a("b"))}, {f("f", v(0), a("a")), f("f", a("a"), a("b"))}, {f("f", a("a"), a("a")), f("f", v(1), a("b"))},
		{f("f", f("g", v(0)), a("a")), f("f", f("g", v(0)), a("b"))}, {v(0), a("a")}, {a("a"), v(0)}, {v(0), v(9)}, {f("f", v(0)), f("f", long)},
	} {
		checkBothLong(t, loop, x.x, x.y)
	}
	// Just at the end: behind the Comps and their first Args, which are wide, two steps are left for the last Args, or none.
	for _, x := range []struct{ x, y api.Term }{{a("a"), a("b")}, {f("f", v(0)), f("g", v(0))}, {i(1), f("f", long)}} {
		checkBothAhead(t, loop, f("f", wide(997, a("a")), x.x), f("f", wide(997, a("a")), x.y))
		checkBothLong(t, loop, f("f", wide(998, a("a")), x.x), f("f", wide(998, a("a")), x.y))
		// A binding in the first Args leaves just one step: the last Arg of the second term is one too many.
		b := append(loop, to(7, a("a")))
		checkBothLong(t, b, f("f", wide(997, v(7)), x.x), f("f", wide(997, a("a")), x.y))
		checkBothLong(t, b, f("f", wide(997, a("a")), x.x), f("f", wide(997, v(7)), x.y))
		checkBothAhead(t, b, f("f", wide(996, v(7)), x.x), f("f", wide(996, v(7)), x.y))
	}
}

// P10.1, P10.2: what was asked ahead takes no steps from what is asked behind it.
func TestStepsOfEachCall(t *testing.T) {
	for range 3 {
		checkBoth(t, nil, wide(999, a("a")), wide(999, a("a")))
		checkBothLong(t, nil, wide(1000, a("a")), wide(1000, a("a")))
		checkBoth(t, chain(0, 1998, a("a")), v(0), a("a"))
	}
}

// R1: no call panics, however deep or wide a term is. The stack is kept small so that a moderate depth tells.
func TestVeryDeep(t *testing.T) {
	defer debug.SetMaxStack(debug.SetMaxStack(1 << 20))
	deep, long := under(40000, v(1)), f("s", slices.Repeat([]api.Term{v(1)}, 40000)...)
	b := []api.Bind{to(0, deep), to(2, long), to(3, v(0))}
	for _, x := range []api.Term{deep, v(0), v(3)} {
		checkBothLong(t, b, x, deep)
		checkBothLong(t, b, x, v(0))
		checkBothAhead(t, b, x, long)
		checkUnify(t, b, x, v(1), to(1, deep))
		checkUnify(t, b, x, v(-1), to(-1, deep))
		checkUnify(t, b, x, under(500, v(9)), to(9, under(39500, v(1))))
	}
	for _, x := range []api.Term{long, v(2)} {
		checkBothLong(t, b, x, long)
		checkBothLong(t, b, f("f", x), f("f", v(2)))
		checkBothAhead(t, b, i(5), x)
		checkUnify(t, b, x, v(7), to(7, long))
	}
}
