package build

import (
	"testing"

	"spinney/api"
)

// P12.1: an Atom or an Int holds with itself and 0.
func TestFunctorOfLeaves(t *testing.T) {
	for _, x := range leaves() {
		checkFunctor(t, nil, x, v(0), v(1), holding(nil, firstNew, to(0, x), to(1, i(0))))
		checkFunctor(t, nil, x, x, i(0), holding(nil, firstNew))
		checkFunctor(t, nil, x, x, v(1), holding(nil, firstNew, to(1, i(0))))
		checkFunctor(t, nil, x, v(0), i(0), holding(nil, firstNew, to(0, x)))
		checkFunctor(t, nil, x, v(0), i(1), not())
		checkFunctor(t, nil, x, v(0), a("0"), not())
		checkFunctor(t, nil, x, a("other"), i(0), not())
		checkFunctor(t, nil, x, f("f", x), i(0), not())
		checkFunctor(t, nil, x, i(17), v(1), not())
	}
	checkFunctor(t, nil, a("1"), i(1), i(0), not())
	checkFunctor(t, nil, i(1), a("1"), i(0), not())
}

// P12.1: a Comp holds with the Atom of its Name and how many Args it has.
func TestFunctorOfComps(t *testing.T) {
	b := loops()
	for _, x := range comps() {
		name, count := a(x.Name), i(int64(len(x.Args)))
		checkFunctor(t, b, x, v(0), v(1), holding(b, firstNew, to(0, name), to(1, count)))
		checkFunctor(t, b, x, name, count, holding(b, firstNew))
		checkFunctor(t, b, x, name, v(1), holding(b, firstNew, to(1, count)))
		checkFunctor(t, b, x, v(0), count, holding(b, firstNew, to(0, name)))
		checkFunctor(t, b, x, v(0), i(count.N+1), not())
		checkFunctor(t, b, x, v(0), i(count.N-1), not())
		checkFunctor(t, b, x, a("other"), count, not())
		checkFunctor(t, b, x, x, v(1), not())
		checkFunctor(t, b, x, v(0), f("f"), not())
	}
	checkFunctor(t, nil, f("f", a("a")), a("g"), v(1), not())
	// Its Args are not walked.
	checkFunctor(t, b, f("f", loop(), f("g", loop())), v(0), v(1), holding(b, firstNew, to(0, a("f")), to(1, i(2))))
	// Of the Comp its Name alone is asked, not its N.
	checkFunctor(t, nil, api.Term{Kind: api.Comp, Name: "f", N: 7, Args: letters(2)}, v(0), v(1), holding(nil, firstNew, to(0, a("f")), to(1, i(2))))
}

// P12.1: of a Var an arity of 1 to 16 makes a Comp of new Vars.
func TestFunctorMakesComps(t *testing.T) {
	for count := 1; count <= 16; count++ {
		for _, name := range []string{"f", "A b", "", "[]", ".", "é", "\xff"} {
			for _, next := range []int64{0, 1, 7, 1 << 32, -1, -100, top - 16, low} {
				want := holding(nil, next+int64(count), to(3, f(name, vars(next, count)...)))
				checkOut(t, Functor(nil, next, v(3), a(name), i(int64(count))), want, a(name), i(int64(count)))
			}
		}
	}
	// Numbers go round, as Go adds.
	checkOut(t, Functor(nil, top, v(3), a("f"), i(2)), holding(nil, low+1, to(3, f("f", v(top), v(low)))))
	checkOut(t, Functor(nil, top-1, v(3), a("f"), i(2)), holding(nil, low, to(3, f("f", v(top-1), v(top)))))
	// The Var may be any, even one that is not new.
	for _, n := range []int64{0, firstNew - 1, firstNew, firstNew + 1, top, -1, low} {
		checkFunctor(t, nil, v(n), a("f"), i(2), holding(nil, firstNew+2, to(n, f("f", v(firstNew), v(firstNew+1)))))
	}
	// The Comp is of the Name alone.
	checkFunctor(t, nil, v(0), api.Term{Kind: api.Atom, Name: "f", N: 7, Args: letters(3)}, i(1), holding(nil, firstNew+1, to(0, f("f", v(firstNew)))))
}

// P12.1: of a Var the arity 0 makes an Atom or an Int of it.
func TestFunctorMakesLeaves(t *testing.T) {
	for _, x := range leaves() {
		checkFunctor(t, nil, v(0), x, i(0), holding(nil, firstNew, to(0, x)))
		checkOut(t, Functor(nil, top, v(7), x, i(0)), holding(nil, top, to(7, x)), x)
	}
}

// P12.1: arities and names that may not be.
func TestFunctorErrors(t *testing.T) {
	b := loops()
	for _, name := range []api.Term{a("f"), i(1), v(1), v(0), f("f", a("a")), loop(), {Kind: 9}} {
		for _, arity := range []int64{-1, 17, -2, 18, 1 << 32, 1<<32 + 1, -1 << 32, low, low + 1, top} {
			checkFunctor(t, b, v(0), name, i(arity), told(api.ErrArg))
		}
		for _, arity := range append(strange(), a("a"), a("0"), a("1"), f("f", i(1)), f("+", i(1), i(1)), f("")) {
			checkFunctor(t, b, v(0), name, arity, told(api.ErrType))
		}
		for _, arity := range []api.Term{v(0), v(1), v(2)} {
			checkFunctor(t, b, v(0), name, arity, told(api.ErrInst))
		}
		checkFunctor(t, b, v(0), name, loop(), told(api.ErrSteps))
	}
	for count := range int64(17) {
		checkFunctor(t, b, v(0), v(1), i(count), told(api.ErrInst))
		checkFunctor(t, b, v(0), v(0), i(count), told(api.ErrInst))
		checkFunctor(t, b, v(0), loop(), i(count), told(api.ErrSteps))
		for _, name := range append(strange(), f("f", a("a")), f("f"), listed(a("a")), f("f", v(0))) {
			checkFunctor(t, b, v(0), name, i(count), told(api.ErrType))
		}
		if count > 0 {
			checkFunctor(t, b, v(0), i(count), i(count), told(api.ErrType))
			checkFunctor(t, b, v(0), i(0), i(count), told(api.ErrType))
		}
	}
}

// P12.1: t is asked ahead of all else: whether it is walked, and of which Kind it is.
func TestFunctorAsksTermFirst(t *testing.T) {
	b := loops()
	others := append(strange(), v(0), v(1), a("f"), i(0), i(1), i(17), f("f", a("a")), loop())
	for _, name := range others {
		for _, arity := range others {
			checkFunctor(t, b, loop(), name, arity, told(api.ErrSteps))
			for _, x := range strange() {
				checkFunctor(t, b, x, name, arity, told(api.ErrType))
				checkFunctor(t, append(b, to(5, x)), v(5), name, arity, told(api.ErrType))
			}
		}
	}
}

// P12.1: all three are walked: bound directly, and over other Vars; of several bindings of one Var the last one counts.
func TestFunctorThroughBindings(t *testing.T) {
	comp, made := f("f", a("a"), v(9)), f("g", v(firstNew), v(firstNew+1))
	b := []api.Bind{to(0, comp), to(1, v(0)), to(2, v(1)), to(3, a("z")), to(3, a("g")), to(4, v(3)), to(5, i(17)), to(5, i(2)), to(6, v(5)), to(7, a("f")), to(8, v(20)), to(10, v(8)), to(11, i(0)), to(12, v(11)), to(13, i(7)), to(14, v(13)), to(15, a("[]"))}
	for _, x := range []api.Term{comp, v(0), v(1), v(2)} {
		checkFunctor(t, b, x, v(30), v(31), holding(b, firstNew, to(30, a("f")), to(31, i(2))))
		checkFunctor(t, b, x, v(7), v(6), holding(b, firstNew))
		checkFunctor(t, b, x, v(10), v(8), not())
		checkFunctor(t, b, x, v(10), v(6), holding(b, firstNew, to(20, a("f"))))
		checkFunctor(t, b, x, v(4), v(31), not())
		checkFunctor(t, b, x, v(7), v(12), not())
	}
	for _, x := range []api.Term{v(8), v(10), v(20)} {
		for _, name := range []api.Term{a("g"), v(3), v(4)} {
			for _, arity := range []api.Term{i(2), v(5), v(6)} {
				checkFunctor(t, b, x, name, arity, holding(b, firstNew+2, to(20, made)))
			}
			checkFunctor(t, b, x, name, v(12), holding(b, firstNew, to(20, a("g"))))
			checkFunctor(t, b, x, name, v(4), told(api.ErrType))
			checkFunctor(t, b, x, name, v(10), told(api.ErrInst))
		}
		checkFunctor(t, b, x, v(14), v(12), holding(b, firstNew, to(20, i(7))))
		checkFunctor(t, b, x, v(14), v(6), told(api.ErrType))
		checkFunctor(t, b, x, v(2), v(12), told(api.ErrType))
		checkFunctor(t, b, x, v(2), v(6), told(api.ErrType))
		checkFunctor(t, b, x, v(10), v(6), told(api.ErrInst))
	}
	for _, x := range []api.Term{v(13), v(14)} {
		checkFunctor(t, b, x, v(30), v(31), holding(b, firstNew, to(30, i(7)), to(31, i(0))))
	}
	checkFunctor(t, b, v(15), v(30), v(11), holding(b, firstNew, to(30, a("[]"))))
}

// P12.1: the second pair is unified under the first one's bindings, and asked only where the first one can be one.
func TestFunctorPairs(t *testing.T) {
	b := loops()
	checkFunctor(t, b, f("f", a("a")), v(0), v(0), not())
	checkFunctor(t, b, a("a"), v(0), v(0), not())
	checkFunctor(t, b, i(1), v(0), v(0), not())
	checkFunctor(t, b, i(0), v(0), v(0), holding(b, firstNew, to(0, i(0))))
	bound := append(b, to(1, v(0)))
	checkFunctor(t, bound, i(0), v(0), v(1), holding(bound, firstNew, to(0, i(0))))
	checkFunctor(t, bound, a("a"), v(0), v(1), not())
	for _, x := range []api.Term{a("a"), f("a", a("b")), f("a", a("b"), a("c"))} {
		checkFunctor(t, b, x, a("other"), loop(), not())
		checkFunctor(t, b, x, loop(), v(1), told(api.ErrSteps))
		checkFunctor(t, b, x, loop(), i(9), told(api.ErrSteps))
		checkFunctor(t, b, x, v(0), loop(), told(api.ErrSteps))
		checkFunctor(t, b, x, a("a"), loop(), told(api.ErrSteps))
	}
}

// P12.1: a walk may follow 2000 bindings, each term's by itself, and each pair may take 2000 steps.
func TestFunctorSteps(t *testing.T) {
	const x, name, arity = 10000, 20000, 30000
	chains := func(ofX, ofName, ofArity int, term api.Term) []api.Bind {
		b := append(chain(x, ofX, term), chain(name, ofName, a("f"))...)
		return append(b, chain(arity, ofArity, i(1))...)
	}
	check := func(b []api.Bind, want api.Out) {
		t.Helper()
		checkFunctor(t, b, v(x), v(name), v(arity), want)
	}
	b := chains(2000, 2000, 2000, v(0))
	check(b, holding(b, firstNew+1, to(0, f("f", v(firstNew)))))
	check(chains(2001, 1, 1, v(0)), told(api.ErrSteps))
	check(chains(1, 2001, 1, v(0)), told(api.ErrSteps))
	check(chains(1, 1, 2001, v(0)), told(api.ErrSteps))
	comp := f("f", a("a"))
	// A pair's terms are two steps.
	b = chains(2000, 1998, 1998, comp)
	check(b, holding(b, firstNew))
	check(chains(2001, 1, 1, comp), told(api.ErrSteps))
	check(chains(1, 1999, 1, comp), told(api.ErrSteps))
	check(chains(1, 1, 1999, comp), told(api.ErrSteps))
	check(chains(1, 1, 1999, f("g", a("a"))), not())
}
