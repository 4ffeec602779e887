package build

import (
	"testing"

	"spinney/api"
)

// P12.2: each place of a Comp, and those that it has not.
func TestArgOfEachPlace(t *testing.T) {
	b := loops()
	for _, x := range comps() {
		count := int64(len(x.Args))
		for n, arg := range x.Args {
			if arg.Kind != api.Var {
				checkArg(t, b, i(int64(n+1)), x, v(0), holding(b, firstNew, to(0, arg)))
				checkArg(t, b, i(int64(n+1)), x, arg, holding(b, firstNew))
				checkArg(t, b, i(int64(n+1)), x, a("other"), not())
			}
		}
		for _, n := range []int64{0, -1, count + 1, count + 2, -count, 1 << 32, 1<<32 + 1, -1<<32 + 1, low, low + 1, top} {
			for _, arg := range []api.Term{v(0), a("a"), x, loop(), {Kind: 9}} {
				checkArg(t, b, i(n), x, arg, not())
			}
		}
	}
	// The place is the N alone.
	checkArg(t, nil, api.Term{Kind: api.Int, Name: "x", N: 2, Args: letters(3)}, f("f", letters(2)...), v(0), holding(nil, firstNew, to(0, a("b"))))
}

// P12.2: it holds with a and the n-th, which stays as it stands in t.
func TestArgPair(t *testing.T) {
	b := append(loops(), to(5, f("h", v(6))), to(6, i(1)), to(7, v(8)))
	x := f("f", a("a"), v(0), v(5), f("g", v(1), v(6)), v(7), loop())
	checkArg(t, b, i(2), x, a("b"), holding(b, firstNew, to(0, a("b"))))
	checkArg(t, b, i(2), x, v(0), holding(b, firstNew))
	checkArg(t, b, i(2), x, v(3), holding(b, firstNew, to(3, v(0))))
	checkArg(t, b, i(2), x, v(-3), holding(b, firstNew, to(0, v(-3))))
	checkArg(t, b, i(2), x, f("f", v(0)), holding(b, firstNew, to(0, f("f", v(0)))))
	checkArg(t, b, i(3), x, v(5), holding(b, firstNew))
	checkArg(t, b, i(3), x, f("h", i(1)), holding(b, firstNew))
	checkArg(t, b, i(3), x, f("h", v(3)), holding(b, firstNew, to(3, i(1))))
	checkArg(t, b, i(3), x, f("h", i(2)), not())
	checkArg(t, b, i(4), x, v(3), holding(b, firstNew, to(3, f("g", v(1), v(6)))))
	checkArg(t, b, i(4), x, f("g", v(2), v(3)), holding(b, firstNew, to(2, v(1)), to(3, i(1))))
	checkArg(t, b, i(4), x, f("g", a("c"), v(1)), not())
	checkArg(t, b, i(5), x, a("c"), holding(b, firstNew, to(8, a("c"))))
	checkArg(t, b, i(6), x, v(3), told(api.ErrSteps))
	checkArg(t, b, i(1), f("f", f("g", loop()), loop()), v(3), holding(b, firstNew, to(3, f("g", loop()))))
	checkArg(t, b, i(1), x, loop(), told(api.ErrSteps))
	for _, next := range []int64{0, -1, low, top} {
		checkOut(t, Arg(nil, next, i(1), f("f", a("a")), v(0)), holding(nil, next, to(0, a("a"))))
	}
}

// P12.2: what may not be, n ahead of t, both ahead of which places there are.
func TestArgErrors(t *testing.T) {
	b := loops()
	for _, n := range []int64{1, 0, -1, 17, low, top} {
		for _, arg := range []api.Term{v(0), a("a"), loop()} {
			checkArg(t, b, i(n), v(1), arg, told(api.ErrInst))
			checkArg(t, b, i(n), loop(), arg, told(api.ErrSteps))
			for _, x := range append(strange(), leaves()...) {
				checkArg(t, b, i(n), x, arg, told(api.ErrType))
			}
		}
	}
	for _, x := range append(strange(), f("f", a("a")), f("f"), v(0), v(1), a("a"), i(1), loop()) {
		for _, arg := range []api.Term{v(0), a("a"), loop()} {
			checkArg(t, b, v(0), x, arg, told(api.ErrInst))
			checkArg(t, b, v(1), x, arg, told(api.ErrInst))
			checkArg(t, b, loop(), x, arg, told(api.ErrSteps))
			for _, n := range append(strange(), a("a"), a("1"), f("f", i(1)), f("+", i(1), i(0)), f("f")) {
				checkArg(t, b, n, x, arg, told(api.ErrType))
			}
		}
	}
}

// P12.2: both are walked: bound directly, and over other Vars; of several bindings of one Var the last one counts.
func TestArgThroughBindings(t *testing.T) {
	b := []api.Bind{to(0, f("g", a("z"))), to(0, f("f", a("a"), v(1), v(2))), to(3, v(0)), to(4, v(3)), to(5, i(9)), to(5, i(1)), to(6, v(5)), to(7, i(2)), to(8, i(4)), to(2, a("c")), to(9, a("k")), to(10, v(20))}
	for _, x := range []api.Term{v(0), v(3), v(4), f("f", a("a"), v(1), v(2))} {
		checkArg(t, b, v(5), x, v(30), holding(b, firstNew, to(30, a("a"))))
		checkArg(t, b, v(6), x, a("a"), holding(b, firstNew))
		checkArg(t, b, v(6), x, v(2), not())
		checkArg(t, b, v(7), x, a("b"), holding(b, firstNew, to(1, a("b"))))
		checkArg(t, b, v(7), x, v(2), holding(b, firstNew, to(1, a("c"))))
		checkArg(t, b, i(3), x, v(30), holding(b, firstNew, to(30, a("c"))))
		checkArg(t, b, i(3), x, v(2), holding(b, firstNew))
		checkArg(t, b, v(8), x, v(30), not())
		checkArg(t, b, v(9), x, v(30), told(api.ErrType))
		checkArg(t, b, v(10), x, v(30), told(api.ErrInst))
	}
	for _, n := range []api.Term{i(1), v(5), v(6), v(8)} {
		checkArg(t, b, n, v(9), v(30), told(api.ErrType))
		checkArg(t, b, n, v(6), v(30), told(api.ErrType))
		checkArg(t, b, n, v(10), v(30), told(api.ErrInst))
	}
}

// P12.2: a walk may follow 2000 bindings, each term's by itself, and the pair may take 2000 steps.
func TestArgSteps(t *testing.T) {
	const n, x, arg, found = 10000, 20000, 30000, 40000
	check := func(ofN, ofX, ofArg, ofFound int, want api.Errno) {
		t.Helper()
		b := append(chain(n, ofN, i(1)), chain(x, ofX, f("f", v(found)))...)
		b = append(append(b, chain(arg, ofArg, a("a"))...), chain(found, ofFound, a("a"))...)
		out := holding(b, firstNew)
		if want != api.OK {
			out = told(want)
		}
		checkArg(t, b, v(n), v(x), v(arg), out)
	}
	check(2000, 2000, 998, 1000, api.OK)
	check(2001, 1, 1, 1, api.ErrSteps)
	check(1, 2001, 1, 1, api.ErrSteps)
	check(1, 1, 1997, 1, api.OK)
	check(1, 1, 1, 1997, api.OK)
	check(1, 1, 1998, 1, api.ErrSteps)
	check(1, 1, 1, 1998, api.ErrSteps)
}
