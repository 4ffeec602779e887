package build

import (
	"slices"
	"testing"

	"spinney/api"
)

// P12.3: an Atom or an Int holds with the list of itself.
func TestUnivOfLeaves(t *testing.T) {
	b := loops()
	for _, x := range leaves() {
		checkUniv(t, b, x, v(0), holding(b, firstNew, to(0, listed(x))))
		checkUniv(t, b, x, listed(x), holding(b, firstNew))
		checkUniv(t, b, x, listed(v(0)), holding(b, firstNew, to(0, x)))
		checkUniv(t, b, x, open(v(0), x), holding(b, firstNew, to(0, a("[]"))))
		checkUniv(t, b, x, open(v(0), v(1)), holding(b, firstNew, to(1, x), to(0, a("[]"))))
		checkUniv(t, b, x, loop(), told(api.ErrSteps))
		for _, l := range []api.Term{x, a("[]"), listed(a("other")), listed(x, x), open(a("other"), x), f("l", x, a("[]")), f(".", x), f(".", x, a("[]"), a("[]")), listed(a("other"), loop()), {Kind: 9}} {
			if x.Name != "[]" || l.Name != "[]" {
				checkUniv(t, b, x, l, not())
			}
		}
		checkOut(t, Univ(nil, low, x, v(0)), holding(nil, low, to(0, listed(x))), x)
	}
}

// P12.3: a Comp holds with the list of the Atom of its Name, and its Args, which stay as they stand in it.
func TestUnivOfComps(t *testing.T) {
	b := loops()
	for _, x := range comps() {
		parts := append([]api.Term{a(x.Name)}, x.Args...)
		checkUniv(t, b, x, v(0), holding(b, firstNew, to(0, listed(parts...))))
		checkUniv(t, b, x, open(v(0), v(1)), holding(b, firstNew, to(1, a(x.Name)), to(0, listed(x.Args...))))
		checkUniv(t, b, x, listed(append(parts, a("a"))...), not())
		checkUniv(t, b, x, listed(parts[1:]...), not())
		checkUniv(t, b, x, x, not())
		checkUniv(t, b, x, loop(), told(api.ErrSteps))
		checkUniv(t, b, x, open(loop(), a("other")), not())
		checkUniv(t, b, x, open(loop(), v(0)), told(api.ErrSteps))
		checkOut(t, Univ(b, top, x, v(0)), holding(b, top, to(0, listed(parts...))), x)
	}
	// Its Args are not walked.
	checkUniv(t, b, f("f", loop(), f("g", loop())), v(0), holding(b, firstNew, to(0, listed(a("f"), loop(), f("g", loop())))))
	x := f("f", a("a"), v(1), f("g", v(2)))
	checkUniv(t, nil, x, listed(v(5), v(6), a("b"), f("g", i(3))), holding(nil, firstNew, to(5, a("f")), to(6, a("a")), to(1, a("b")), to(2, i(3))))
	checkUniv(t, nil, x, listed(v(5), v(5), v(1), v(3)), not())
	// Of the Comp its Name alone is asked, not its N.
	checkUniv(t, nil, api.Term{Kind: api.Comp, Name: "f", N: 7, Args: letters(2)}, v(0), holding(nil, firstNew, to(0, listed(a("f"), a("a"), a("b")))))
}

// P12.3: of a Var a list of one makes an Atom or an Int, one of 2 to 17 a Comp; no Var is new.
func TestUnivMakes(t *testing.T) {
	b := loops()
	for _, x := range leaves() {
		checkUniv(t, b, v(0), listed(x), holding(b, firstNew, to(0, x)))
	}
	for _, x := range comps() {
		if count := len(x.Args); 1 <= count && count <= 16 {
			checkUniv(t, b, v(0), listed(append([]api.Term{a(x.Name)}, x.Args...)...), holding(b, firstNew, to(0, x)))
		}
	}
	for _, next := range []int64{0, -1, low, top} {
		checkOut(t, Univ(nil, next, v(0), listed(a("f"), v(1))), holding(nil, next, to(0, f("f", v(1)))))
		checkOut(t, Univ(nil, next, v(0), listed(i(5))), holding(nil, next, to(0, i(5))))
	}
	checkUniv(t, nil, v(0), listed(a("f"), v(0)), holding(nil, firstNew, to(0, f("f", v(0)))))
	// The Comp is of the Name alone.
	checkUniv(t, nil, v(0), listed(api.Term{Kind: api.Atom, Name: "f", N: 7, Args: letters(3)}, i(1)), holding(nil, firstNew, to(0, f("f", i(1)))))
}

// P12.3: first elements that may not be, alone and with others.
func TestUnivFirstElements(t *testing.T) {
	b := loops()
	for count := range 17 {
		more := letters(count)
		check := func(first api.Term, want api.Errno) {
			t.Helper()
			checkUniv(t, b, v(0), open(listed(more...), first), told(want))
		}
		check(v(1), api.ErrInst)
		check(v(0), api.ErrInst)
		check(loop(), api.ErrSteps)
		for _, first := range append(strange(), f("f", a("a")), f("f"), listed(a("a")), f("f", v(0))) {
			check(first, api.ErrType)
		}
		if count > 0 {
			check(i(1), api.ErrType)
			check(i(0), api.ErrType)
		}
	}
}

// P12.3: lists of too many elements or of none, and what is no list; asked ahead of the first element, and of too many as soon as
// there are.
func TestUnivLists(t *testing.T) {
	b := append(loops(), to(800, open(v(800), a("a"))), to(801, open(v(802), a("f"), a("b"))), to(802, open(v(801), a("c"))))
	ends := append(strange(), a("a"), a("."), a(""), i(0), f("f", a("a"), a("[]")), f("[]", a("a")), f("."), f(".", a("a")), f(".", a("a"), a("[]"), a("[]")), api.Term{Kind: api.Atom, Name: ".", Args: []api.Term{a("a"), a("[]")}})
	for _, first := range append(strange(), a("f"), i(1), v(1), f("f", a("a")), loop()) {
		for count := range 18 {
			l := append([]api.Term{first}, letters(count)...)[:count]
			checkUniv(t, b, v(0), open(v(1), l...), told(api.ErrInst))
			checkUniv(t, b, v(0), open(v(0), l...), told(api.ErrInst))
			checkUniv(t, b, v(0), open(loop(), l...), told(api.ErrSteps))
			for _, end := range ends {
				checkUniv(t, b, v(0), open(end, l...), told(api.ErrType))
			}
		}
		for _, count := range []int{18, 19, 20, 100, 300} {
			l := append([]api.Term{first}, slices.Repeat(letters(1), count-1)...)
			for _, end := range append(ends, a("[]"), v(1), v(0), loop()) {
				checkUniv(t, b, v(0), open(end, l...), told(api.ErrArg))
			}
		}
		// Lists that go round have more elements than any number.
		for _, n := range []int64{800, 801, 802} {
			checkUniv(t, b, v(0), v(n), told(api.ErrArg))
			checkUniv(t, b, v(0), open(v(n), first), told(api.ErrArg))
		}
	}
	checkUniv(t, b, v(0), listed(), told(api.ErrType))
	checkUniv(t, append(b, to(1, a("[]"))), v(0), v(1), told(api.ErrType))
	// What goes round under the Var itself is no list yet.
	checkUniv(t, nil, v(0), open(v(0), a("f")), told(api.ErrInst))
}

// P12.3: t is asked ahead of l: whether it is walked, and of which Kind it is.
func TestUnivAsksTermFirst(t *testing.T) {
	b := loops()
	for _, l := range append(strange(), v(0), v(1), a("f"), i(0), a("[]"), listed(a("a")), open(v(0), a("a")), listed(letters(18)...), loop()) {
		checkUniv(t, b, loop(), l, told(api.ErrSteps))
		for _, x := range strange() {
			checkUniv(t, b, x, l, told(api.ErrType))
			checkUniv(t, append(b, to(5, x)), v(5), l, told(api.ErrType))
		}
	}
}

// P12.3: t, each cell and the first element are walked: bound directly, and over other Vars; of several bindings of one Var the
// last one counts. The other elements stay as they are.
func TestUnivThroughBindings(t *testing.T) {
	b := append(loops(), to(0, a("z")), to(0, open(v(1), v(4))), to(1, v(2)), to(2, open(v(3), v(6))), to(3, i(3)), to(3, a("[]")), to(4, i(8)), to(4, v(5)), to(5, a("f")), to(6, f("g", v(7))), to(7, a("k")), to(8, v(20)), to(9, v(8)), to(10, open(v(3), v(11))), to(11, v(12)), to(12, i(5)), to(13, open(v(3), v(9))), to(14, open(v(3), v(6))), to(15, open(v(9), v(5))), to(16, open(v(12), v(5))), to(17, open(v(2), v(11))))
	for _, x := range []api.Term{v(8), v(9), v(20)} {
		checkUniv(t, b, x, v(0), holding(b, firstNew, to(20, f("f", v(6)))))
		checkUniv(t, b, x, open(v(0), v(4), loop()), holding(b, firstNew, to(20, f("f", loop(), v(4), v(6)))))
		checkUniv(t, b, x, v(10), holding(b, firstNew, to(20, i(5))))
		checkUniv(t, b, x, v(3), told(api.ErrType))
		checkUniv(t, b, x, v(4), told(api.ErrType))
		checkUniv(t, b, x, v(11), told(api.ErrType))
		checkUniv(t, b, x, v(9), told(api.ErrInst))
		checkUniv(t, b, x, v(13), told(api.ErrInst))
		checkUniv(t, b, x, v(14), told(api.ErrType))
		checkUniv(t, b, x, v(15), told(api.ErrInst))
		checkUniv(t, b, x, v(16), told(api.ErrType))
		checkUniv(t, b, x, v(17), told(api.ErrType))
	}
	for _, x := range []api.Term{v(4), v(5)} {
		checkUniv(t, b, x, v(9), holding(b, firstNew, to(20, listed(a("f")))))
		checkUniv(t, b, x, open(v(3), v(9)), holding(b, firstNew, to(20, a("f"))))
		checkUniv(t, b, x, v(0), not())
	}
	for _, x := range []api.Term{v(11), v(12)} {
		checkUniv(t, b, x, v(9), holding(b, firstNew, to(20, listed(i(5)))))
		checkUniv(t, b, x, v(10), holding(b, firstNew))
	}
	checkUniv(t, b, v(6), v(9), holding(b, firstNew, to(20, listed(a("g"), v(7)))))
	checkUniv(t, b, v(6), open(v(14), v(9)), not())
	checkUniv(t, b, f("f", f("g", v(9))), v(0), holding(b, firstNew, to(20, a("k"))))
	checkUniv(t, b, f("f", f("g", v(9), v(9))), v(0), not())
	checkUniv(t, b, f("g", v(9)), v(0), not())
	checkUniv(t, b, f("f", v(9)), v(0), holding(b, firstNew, to(20, f("g", v(7)))))
}

// P12.3: a walk may follow 2000 bindings, each term's by itself, and the pair may take 2000 steps.
func TestUnivSteps(t *testing.T) {
	const x, l, rest, end, first = 10000, 20000, 30000, 40000, 50000
	check := func(ofX, ofL, ofRest, ofEnd, ofFirst int, term api.Term, want api.Errno, made ...api.Bind) {
		t.Helper()
		b := append(chain(x, ofX, term), chain(l, ofL, open(v(rest), v(first)))...)
		b = append(append(b, chain(rest, ofRest, open(v(end), a("a")))...), chain(end, ofEnd, a("[]"))...)
		b = append(b, chain(first, ofFirst, a("f"))...)
		out := holding(b, firstNew, made...)
		if want != api.OK {
			out = told(want)
		}
		checkUniv(t, b, v(x), v(l), out)
	}
	check(2000, 2000, 2000, 2000, 2000, v(0), api.OK, to(0, f("f", a("a"))))
	check(2001, 1, 1, 1, 1, v(0), api.ErrSteps)
	check(1, 2001, 1, 1, 1, v(0), api.ErrSteps)
	check(1, 1, 2001, 1, 1, v(0), api.ErrSteps)
	check(1, 1, 1, 2001, 1, v(0), api.ErrSteps)
	check(1, 1, 1, 1, 2001, v(0), api.ErrSteps)
	// The pair's terms are two cells of two, and the end, on either side.
	check(2000, 1990-3, 1, 1, 1, f("f", a("a")), api.OK)
	check(2000, 500, 500, 500, 490, f("f", a("a")), api.OK)
	check(2000, 1990-2, 1, 1, 1, f("f", a("a")), api.ErrSteps)
	check(2000, 500, 500, 500, 491, f("f", a("a")), api.ErrSteps)
	check(2001, 1, 1, 1, 1, f("f", a("a")), api.ErrSteps)
}
