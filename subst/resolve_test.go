package subst

import (
	"runtime/debug"
	"slices"
	"testing"

	"spinney/api"
	"spinney/term"
)

// wide is a Comp of so many terms in all, itself counted.
func wide(size int) api.Term {
	return f("w", slices.Repeat([]api.Term{a("a")}, size-1)...)
}

// P9.2, P9.4: without bindings, and with those of others, each kind of term is what it was.
func TestResolveWithoutBindings(t *testing.T) {
	others := []api.Bind{to(100, a("z")), to(-100, v(0)), to(101, v(101)), to(low+1, f("f", v(100)))}
	for _, x := range all() {
		checkResolve(t, nil, x, x)
		checkResolve(t, []api.Bind{}, x, x)
		checkResolve(t, others, x, x)
	}
}

// P9.2: each kind of term, with bindings of its Vars.
func TestResolve(t *testing.T) {
	b := []api.Bind{
		to(0, a("a")), to(1, i(-7)), to(2, v(0)), to(3, v(9)), to(4, f("f", v(0), v(3))), to(5, f("g", v(4), v(2), v(8))), to(6, v(5)), to(-1, f("h", v(1))), to(top, v(-1)),
	}
	g := f("g", f("f", a("a"), v(9)), a("a"), v(8))
	for _, x := range []struct{ t, want api.Term }{
		{v(0), a("a")}, {v(1), i(-7)}, {v(2), a("a")}, {v(3), v(9)}, {v(9), v(9)}, {v(10), v(10)}, {v(-2), v(-2)},
		{v(4), f("f", a("a"), v(9))}, {v(5), g}, {v(6), g}, {v(-1), f("h", i(-7))}, {v(top), f("h", i(-7))},
		{a("a"), a("a")}, {i(0), i(0)}, {f("f", v(0)), f("f", a("a"))}, {f("f", v(10), i(1), a("b")), f("f", v(10), i(1), a("b"))},
		{f("f", v(3), v(9), v(0), v(3)), f("f", v(9), v(9), a("a"), v(9))}, {f("p", v(6), f("q", v(6), v(1)), v(10)), f("p", g, f("q", g, i(-7)), v(10))},
		{f(".", v(0), f(".", v(1), v(3))), f(".", a("a"), f(".", i(-7), v(9)))}, {under(50, v(5)), under(50, g)},
		{api.Term{Kind: api.Atom, Name: "a", Args: []api.Term{v(0)}}, api.Term{Kind: api.Atom, Name: "a", Args: []api.Term{a("a")}}},
		{api.Term{Kind: api.Var, N: 10, Args: []api.Term{v(0)}}, api.Term{Kind: api.Var, N: 10, Args: []api.Term{a("a")}}},
		{api.Term{Kind: api.Var, N: 1, Args: []api.Term{v(0)}}, i(-7)}, {api.Term{Kind: 9, N: 1, Args: []api.Term{v(1)}}, api.Term{Kind: 9, N: 1, Args: []api.Term{i(-7)}}},
	} {
		checkResolve(t, b, x.t, x.want)
	}
}

// P9.2: terms are met, and bindings followed, at most 2000 in all: of terms alone.
func TestResolveStepsOfTerms(t *testing.T) {
	for _, size := range []int{17, 1000, 1999, 2000} {
		checkResolve(t, nil, wide(size), wide(size))
	}
	for _, size := range []int{2001, 2002, 5000} {
		checkNoResolve(t, nil, wide(size), api.ErrSteps)
	}
	// 40 Comps of 50 terms each, but the last one, which has one less for the Comp around them.
	list := slices.Repeat([]api.Term{wide(50)}, 39)
	checkResolve(t, nil, f("f", append(list, wide(49))...), f("f", append(list, wide(49))...))
	checkNoResolve(t, nil, f("f", append(list, wide(50))...), api.ErrSteps)
}

// P9.2: of one chain of bindings: the Var is a term that is met, and what it is walked to is not met anew.
func TestResolveStepsOfBindings(t *testing.T) {
	for _, end := range []api.Term{a("a"), i(7), v(5000)} {
		checkResolve(t, chain(1998, end), v(0), end)
		checkResolve(t, chain(1999, end), v(0), end)
		checkNoResolve(t, chain(2000, end), v(0), api.ErrSteps)
		checkResolve(t, chain(1998, end), f("f", v(0)), f("f", end))
		checkNoResolve(t, chain(1999, end), f("f", v(0)), api.ErrSteps)
		checkNoResolve(t, chain(1999, end), f("f", a("b"), v(1)), api.ErrSteps)
		checkResolve(t, chain(1999, end), f("f", a("b"), v(2)), f("f", a("b"), end))
		// The Comp's Arg is met, too.
		checkResolve(t, chain(1998, f("f", end)), v(0), f("f", end))
		checkNoResolve(t, chain(1999, f("f", end)), v(0), api.ErrSteps)
	}
}

// P9.2: all are counted together, however often they were met.
func TestResolveStepsTogether(t *testing.T) {
	b := chain(99, a("a"))
	// 19 Vars of 100 steps each, and the Comp; 99 are left.
	vars := slices.Repeat([]api.Term{v(0)}, 19)
	atoms := slices.Repeat([]api.Term{a("a")}, 19)
	checkResolve(t, b, f("f", append(vars, v(1))...), f("f", append(atoms, a("a"))...))
	checkResolve(t, b, f("f", append([]api.Term{v(1)}, vars...)...), f("f", append(atoms, a("a"))...))
	checkNoResolve(t, b, f("f", append(vars, v(0))...), api.ErrSteps)
	checkNoResolve(t, b, f("f", append(vars, v(1), a("a"))...), api.ErrSteps)
	checkNoResolve(t, b, f("f", append([]api.Term{a("a"), v(1)}, vars...)...), api.ErrSteps)
	// Each Var is bound to a Comp of the next one twice: 3 * 2^levels - 2 steps, 1534 of 9 levels, 3070 of 10.
	var twice []api.Bind
	for n := range int64(20) {
		twice = append(twice, to(n, f("f", v(n+1), v(n+1))))
	}
	want := v(20)
	for range 9 {
		want = f("f", want, want)
	}
	checkResolve(t, twice, v(11), want)
	checkResolve(t, twice, f("f", v(11), wide(465)), f("f", want, wide(465)))
	checkNoResolve(t, twice, f("f", v(11), wide(466)), api.ErrSteps)
	checkNoResolve(t, twice, v(10), api.ErrSteps)
	checkNoResolve(t, twice, v(0), api.ErrSteps)
}

// P9.2: what was asked ahead takes no steps from what is asked behind it.
func TestResolveStepsOfEachCall(t *testing.T) {
	for range 3 {
		checkResolve(t, nil, wide(2000), wide(2000))
		checkNoResolve(t, nil, wide(2001), api.ErrSteps)
		checkWalk(t, chain(2000, a("a")), v(0), a("a"))
	}
}

// P9.2: a term may stand in 59 others, whatever it is, not in 60.
func TestResolveDepth(t *testing.T) {
	for _, x := range []api.Term{v(0), a("a"), i(1), f("f"), none} {
		checkResolve(t, nil, under(58, x), under(58, x))
		checkResolve(t, nil, under(59, x), under(59, x))
		for _, levels := range []int{60, 61, 100, 3000} {
			checkNoResolve(t, nil, under(levels, x), api.ErrDeep)
		}
		checkResolve(t, nil, f("f", i(1), under(58, x), i(2)), f("f", i(1), under(58, x), i(2)))
		checkNoResolve(t, nil, f("f", i(1), under(59, x), i(2)), api.ErrDeep)
		checkNoResolve(t, nil, f("f", under(59, x), i(2)), api.ErrDeep)
		checkNoResolve(t, nil, f("f", i(1), under(59, x)), api.ErrDeep)
	}
	many := slices.Repeat([]api.Term{under(58, a("a"))}, 16)
	checkResolve(t, nil, f("f", many...), f("f", many...))
}

// P9.2: and so may what its Vars are bound to; a chain of bindings makes it no deeper.
func TestResolveDepthOfBindings(t *testing.T) {
	for _, inner := range []int{0, 1, 29, 58, 59} {
		b := append(chain(100, under(inner, v(1000))), to(1000, v(1001)))
		for _, n := range []int64{0, 50, 99} {
			checkResolve(t, b, under(59-inner, v(n)), under(59, v(1001)))
			checkNoResolve(t, b, under(60-inner, v(n)), api.ErrDeep)
			checkNoResolve(t, b, f("f", a("a"), under(59-inner, v(n))), api.ErrDeep)
		}
	}
	// Each Var stands in the term that the one ahead of it is bound to.
	var nested []api.Bind
	for n := range int64(70) {
		nested = append(nested, to(n, f("s", v(n+1))))
	}
	checkResolve(t, nested, v(11), under(59, v(70)))
	checkNoResolve(t, nested, v(10), api.ErrDeep)
	checkResolve(t, nested, f("s", v(12)), under(59, v(70)))
	checkNoResolve(t, nested, f("s", v(11)), api.ErrDeep)
}

// P9.2: a Var that stands in its own term is too deep, or takes too many steps, if that term is wide.
func TestResolveOfRings(t *testing.T) {
	checkNoResolve(t, []api.Bind{to(0, f("f", v(1))), to(1, f("g", v(0)))}, v(0), api.ErrDeep)
	checkNoResolve(t, []api.Bind{to(0, f("f", v(1))), to(1, v(0))}, v(1), api.ErrDeep)
	checkNoResolve(t, []api.Bind{to(0, f("f", v(0), v(0)))}, v(0), api.ErrDeep)
	checkNoResolve(t, []api.Bind{to(0, f("f", a("a"), v(0)))}, f("g", v(0)), api.ErrDeep)
	checkNoResolve(t, []api.Bind{to(0, f("f", wide(40), v(0)))}, v(0), api.ErrSteps)
	checkNoResolve(t, []api.Bind{to(0, v(0))}, f("f", a("a"), v(0)), api.ErrSteps)
	checkResolve(t, []api.Bind{to(0, f("f", v(0))), to(0, a("a"))}, v(0), a("a"))
}

// P9.2: where both errors are in a term, the one that is met first tells, from left to right.
func TestResolveFirstError(t *testing.T) {
	loop := ring(3)
	deep, long, round := under(60, a("a")), wide(2001), v(1)
	for _, x := range []struct {
		t api.Term
		e api.Errno
	}{
		{f("f", deep, long), api.ErrDeep}, {f("f", long, deep), api.ErrSteps}, {f("f", deep, round), api.ErrDeep}, {f("f", round, deep), api.ErrSteps},
		{f("f", a("a"), f("g", deep), round), api.ErrDeep}, {f("f", a("a"), f("g", a("a"), round), deep), api.ErrSteps},
		{f("f", f("g", a("a"), deep), f("g", round)), api.ErrDeep}, {f("f", f("g", round), f("g", a("a"), deep)), api.ErrSteps},
		{f("f", v(9), deep, round, deep), api.ErrDeep}, {f("f", v(9), round, deep, round), api.ErrSteps},
		{under(59, round), api.ErrSteps},
		// A Var that stands in 60 others is met ahead of what it is bound to.
		{under(60, round), api.ErrDeep}, {under(61, round), api.ErrDeep},
	} {
		checkNoResolve(t, loop, x.t, x.e)
	}
	// By bindings' terms likewise.
	b := append(loop, to(10, deep), to(11, long), to(12, f("f", v(10), v(11))), to(13, f("f", v(11), v(10))))
	for n, e := range map[int64]api.Errno{10: api.ErrDeep, 11: api.ErrSteps, 12: api.ErrDeep, 13: api.ErrSteps} {
		checkNoResolve(t, b, v(n), e)
		checkNoResolve(t, b, f("f", v(99), v(n)), e)
	}
}

// P9.2: just where the steps come to their end at a term that is too deep.
func TestResolveErrorsAtOnePlace(t *testing.T) {
	deep := under(59, a("a"))
	// In the Comp around them 60 of deep's terms are met behind what is ahead of it, the last one stands in 60 others.
	for _, x := range []struct {
		ahead int
		e     api.Errno
	}{{1900, api.ErrDeep}, {1938, api.ErrDeep}, {1939, api.ErrDeep}, {1940, api.ErrSteps}, {1941, api.ErrSteps}, {1999, api.ErrSteps}} {
		checkNoResolve(t, nil, f("f", wide(x.ahead), deep), x.e)
		checkNoResolve(t, nil, f("f", wide(x.ahead), under(70, a("a"))), x.e)
		checkNoResolve(t, []api.Bind{to(0, deep)}, f("f", wide(x.ahead-1), v(0)), x.e)
		checkNoResolve(t, []api.Bind{to(0, wide(x.ahead-1))}, f("f", v(0), deep), x.e)
		checkNoResolve(t, chain(x.ahead-1, a("a")), f("f", v(0), deep), x.e)
	}
}

// P9.2
func TestGround(t *testing.T) {
	b := []api.Bind{to(0, a("a")), to(1, f("f", v(0), i(1))), to(2, v(3)), to(4, f("f", v(1), v(2))), to(5, v(1))}
	for _, x := range []struct {
		t  api.Term
		is bool
	}{
		{a("a"), true}, {i(0), true}, {f("f", a("a"), i(1)), true}, {f("f"), true}, {none, true},
		{v(0), true}, {v(1), true}, {v(5), true}, {f("f", v(0), v(1), f("g", v(5))), true}, {under(59, v(0)), true},
		{v(2), false}, {v(3), false}, {v(4), false}, {v(-1), false}, {v(top), false}, {f("f", v(0), v(4)), false}, {f("f", v(9), v(0)), false}, {f("f", v(0), v(9)), false}, {under(59, v(9)), false}, {f("f", f("g", v(9)), a("a")), false},
		{api.Term{Kind: api.Atom, Name: "a", Args: []api.Term{v(9)}}, false}, {api.Term{Kind: api.Var, N: 0, Args: []api.Term{v(9)}}, true}, {api.Term{Kind: api.Var, N: 9, Args: []api.Term{v(0)}}, false},
	} {
		if is, e := Ground(b, x.t); is != x.is || e != api.OK {
			t.Errorf("Ground of %s: got %t, %d", picture(x.t), is, e)
		}
		if is, e := Ground(nil, x.t); is != (len(term.Vars(x.t)) == 0) || e != api.OK {
			t.Errorf("Ground of %s without bindings: got %t, %d", picture(x.t), is, e)
		}
	}
}

// P9.2: an error tells, whether a Var is met ahead of it or not.
func TestGroundErrors(t *testing.T) {
	loop := append(ring(2), to(3, f("f", v(3))))
	for _, x := range []struct {
		t api.Term
		e api.Errno
	}{
		{v(0), api.ErrSteps}, {v(3), api.ErrDeep}, {f("f", v(9), v(0)), api.ErrSteps}, {f("f", v(9), v(3)), api.ErrDeep}, {f("f", v(0), v(9)), api.ErrSteps}, {f("f", v(3), v(9)), api.ErrDeep},
		{f("f", v(9), v(0), v(3)), api.ErrSteps}, {f("f", v(9), v(3), v(0)), api.ErrDeep}, {f("f", v(9), under(59, a("a"))), api.ErrDeep}, {f("f", v(9), wide(1998)), api.OK}, {f("f", v(9), wide(1999)), api.ErrSteps},
	} {
		if is, e := Ground(loop, x.t); is || e != x.e {
			t.Errorf("Ground of %s: got %t, %d", picture(x.t), is, e)
		}
	}
}

// R1, P9.1 to P9.3: no call panics, however deep or wide a term is. The stack is kept small so that a moderate depth tells.
func TestVeryDeep(t *testing.T) {
	defer debug.SetMaxStack(debug.SetMaxStack(1 << 20))
	deep, long := under(100000, v(1)), f("f", slices.Repeat([]api.Term{v(1)}, 100000)...)
	b := []api.Bind{to(0, deep), to(2, long), to(3, v(0))}
	if got, bound := Look(b, 0); !bound || !term.Same(got, deep) {
		t.Error("Look")
	}
	if got, e := Walk(b, v(3)); e != api.OK || !term.Same(got, deep) {
		t.Error("Walk of a Var")
	}
	if got, e := Walk(b, deep); e != api.OK || !term.Same(got, deep) {
		t.Error("Walk of a Comp")
	}
	if got := Fresh(deep, 8); !term.Same(got, under(100000, v(9))) {
		t.Error("Fresh")
	}
	for _, x := range []api.Term{deep, v(0), v(3), f("f", v(0), v(2))} {
		checkNoResolve(t, b, x, api.ErrDeep)
	}
	for _, x := range []api.Term{long, v(2), f("f", v(2), v(0))} {
		checkNoResolve(t, b, x, api.ErrSteps)
	}
}
