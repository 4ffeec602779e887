package subst

import (
	"math"
	"slices"
	"strconv"
	"testing"

	"spinney/api"
	"spinney/term"
)

const (
	top = math.MaxInt64
	low = math.MinInt64
)

func v(n int64) api.Term { return api.Term{Kind: api.Var, N: n} }

func a(name string) api.Term { return api.Term{Kind: api.Atom, Name: name} }

func i(n int64) api.Term { return api.Term{Kind: api.Int, N: n} }

func f(name string, args ...api.Term) api.Term {
	return api.Term{Kind: api.Comp, Name: name, Args: args}
}

// under is t under so many Comps of one Arg.
func under(levels int, t api.Term) api.Term {
	for range levels {
		t = f("s", t)
	}
	return t
}

func to(n int64, t api.Term) api.Bind { return api.Bind{Var: n, To: t} }

// chain binds the Vars from 0 on, so many of them, each one to the next, the last one to end.
func chain(count int, end api.Term) []api.Bind {
	var out []api.Bind
	for n := range int64(count) {
		out = append(out, to(n, v(n+1)))
	}
	if count > 0 {
		out[count-1].To = end
	}
	return out
}

// ring binds so many Vars from 0 on, each one to the next, the last one to 0.
func ring(count int) []api.Bind { return chain(count, v(0)) }

// picture tells all of a term, whatever it is.
func picture(t api.Term) string {
	out := strconv.Itoa(t.Kind) + strconv.Quote(t.Name) + strconv.FormatInt(t.N, 10) + "["
	for _, x := range t.Args {
		out += picture(x)
	}
	return out + "]"
}

func pictureBindings(b []api.Bind) string {
	out := ""
	for _, x := range b {
		out += strconv.FormatInt(x.Var, 10) + ": " + picture(x.To) + "\n"
	}
	return out
}

// none holds nothing: it is what is told beside an error, or where there is nothing.
var none = api.Term{}

// isNone tells whether a term holds nothing at all.
func isNone(t api.Term) bool {
	return t.Kind == 0 && t.Name == "" && t.N == 0 && len(t.Args) == 0
}

// checkLook holds that a Var is bound to that.
func checkLook(t *testing.T, b []api.Bind, n int64, want api.Term) {
	t.Helper()
	if got, bound := Look(b, n); !bound || !term.Same(got, want) {
		t.Errorf("Look of %d: got %s, %t, want %s", n, picture(got), bound, picture(want))
	}
}

// checkUnbound holds that a Var is not bound, and stays what it is.
func checkUnbound(t *testing.T, b []api.Bind, n int64) {
	t.Helper()
	if got, bound := Look(b, n); bound || !isNone(got) {
		t.Errorf("Look of %d: got %s, %t", n, picture(got), bound)
	}
	checkWalk(t, b, v(n), v(n))
	checkResolve(t, b, v(n), v(n))
}

func checkWalk(t *testing.T, b []api.Bind, x, want api.Term) {
	t.Helper()
	if got, e := Walk(b, x); e != api.OK || !term.Same(got, want) {
		t.Errorf("Walk of %s: got %s, %d, want %s", picture(x), picture(got), e, picture(want))
	}
}

// checkNoWalk holds that a walk takes too many steps, and so does Resolve.
func checkNoWalk(t *testing.T, b []api.Bind, x api.Term) {
	t.Helper()
	if got, e := Walk(b, x); e != api.ErrSteps || !isNone(got) {
		t.Errorf("Walk of %s: got %s, %d", picture(x), picture(got), e)
	}
	checkNoResolve(t, b, x, api.ErrSteps)
}

// checkResolve holds what Resolve answers, and that Ground tells whether there is a Var in it.
func checkResolve(t *testing.T, b []api.Bind, x, want api.Term) {
	t.Helper()
	if got, e := Resolve(b, x); e != api.OK || !term.Same(got, want) {
		t.Errorf("Resolve of %s: got %s, %d, want %s", picture(x), picture(got), e, picture(want))
	}
	if got, e := Ground(b, x); e != api.OK || got != (len(term.Vars(want)) == 0) {
		t.Errorf("Ground of %s: got %t, %d", picture(x), got, e)
	}
}

// checkNoResolve holds that Resolve and Ground tell that error, and nothing beside it.
func checkNoResolve(t *testing.T, b []api.Bind, x api.Term, want api.Errno) {
	t.Helper()
	if got, e := Resolve(b, x); e != want || !isNone(got) {
		t.Errorf("Resolve: got %s, %d, want %d", picture(got), e, want)
	}
	if got, e := Ground(b, x); e != want || got {
		t.Errorf("Ground: got %t, %d, want %d", got, e, want)
	}
}

// all are terms of all kinds, some that may not be among them.
func all() []api.Term {
	return []api.Term{
		v(0), v(1), v(2), v(7), v(top), i(0), i(1), i(-1), i(low), i(top), a(""), a("a"), a("[]"), a("_0"), a("it's"), a("é"),
		f("f", v(0)), f("f", v(0), v(1)), f("f", v(2), a("a"), v(2)), f(".", i(1), f(".", v(3), a("[]"))), f("g", f("f", a("a"), v(0)), f("f", v(1), i(2))), under(50, v(5)),
		f("f", slices.Repeat([]api.Term{v(3)}, 16)...), f("f", slices.Repeat([]api.Term{f("g", v(0))}, 17)...), f("f"), none, {Kind: 9}, {Kind: -1, Name: "x", N: 3},
		v(-1), v(low), f("f", v(-1)), {Kind: api.Var, Name: "X", N: 3}, {Kind: api.Int, Name: "1", N: 1}, {Kind: api.Atom, Name: "a", N: 1}, a("\xff"), f("\xff", a("a")),
		{Kind: api.Var, N: 4, Args: []api.Term{v(0), a("a")}}, {Kind: api.Atom, Name: "a", Args: []api.Term{v(0)}}, {Kind: api.Int, N: 1, Args: []api.Term{f("f", v(1))}}, {Kind: 5, Args: []api.Term{v(1), none}},
	}
}

// P9.1 to P9.2
func TestExamples(t *testing.T) {
	checkResolve(t, []api.Bind{to(0, f("f", v(1))), to(1, a("a"))}, f("g", v(0), v(1)), f("g", f("f", a("a")), a("a")))
	checkNoResolve(t, []api.Bind{to(0, f("f", v(0)))}, v(0), api.ErrDeep)
	checkNoWalk(t, []api.Bind{to(0, v(1)), to(1, v(0))}, v(0))
}

// P9.1
func TestLook(t *testing.T) {
	numbers := []int64{0, 1, 2, 3, 199, 1 << 31, 1 << 32, 1<<32 + 1, 1 << 62, top - 1, top, -1, -2, -1 << 32, low + 1, low}
	for _, n := range numbers {
		checkUnbound(t, nil, n)
		checkUnbound(t, []api.Bind{}, n)
	}
	for _, n := range numbers {
		for _, x := range all() {
			checkLook(t, []api.Bind{to(n, x)}, n, x)
		}
		for _, other := range numbers {
			if other != n {
				checkUnbound(t, []api.Bind{to(n, a("a"))}, other)
				checkUnbound(t, []api.Bind{to(n, v(other)), to(n, a("b"))}, other)
				checkLook(t, []api.Bind{to(n, a("a")), to(other, a("b"))}, n, a("a"))
				checkLook(t, []api.Bind{to(n, a("a")), to(other, a("b"))}, other, a("b"))
			}
		}
	}
}

// P9.1: the last binding of a Var counts, wherever it stands among those of others.
func TestLookOfSeveral(t *testing.T) {
	checkLook(t, []api.Bind{to(0, a("a")), to(0, a("b"))}, 0, a("b"))
	checkLook(t, []api.Bind{to(0, a("b")), to(0, a("a"))}, 0, a("a"))
	checkLook(t, []api.Bind{to(0, a("a")), to(0, a("b")), to(0, a("c"))}, 0, a("c"))
	checkLook(t, []api.Bind{to(0, a("a")), to(1, a("x")), to(0, v(1)), to(1, a("y")), to(2, a("z"))}, 0, v(1))
	checkLook(t, []api.Bind{to(0, v(5)), to(1, a("x")), to(0, a("a")), to(1, a("y")), to(2, a("z"))}, 1, a("y"))
	checkLook(t, []api.Bind{to(0, a("a")), to(0, none)}, 0, none)
	checkWalk(t, []api.Bind{to(0, v(1)), to(1, a("x")), to(0, v(2)), to(2, a("y")), to(1, a("z"))}, v(0), a("y"))
	checkResolve(t, []api.Bind{to(0, a("a")), to(1, a("x")), to(0, f("f", v(1))), to(1, a("y"))}, f("g", v(0), v(1)), f("g", f("f", a("y")), a("y")))
	var many []api.Bind
	for n := range int64(3000) {
		many = append(many, to(n%1000, i(n)))
	}
	for n := range int64(1000) {
		checkLook(t, many, n, i(2000+n))
		checkWalk(t, many, v(n), i(2000+n))
	}
	checkUnbound(t, many, 1000)
}

// P9.1: of a Var just one binding is followed, of others none.
func TestLookFollowsNothing(t *testing.T) {
	b := []api.Bind{to(0, v(1)), to(1, f("f", v(2))), to(2, a("a")), to(3, v(3))}
	checkLook(t, b, 0, v(1))
	checkLook(t, b, 1, f("f", v(2)))
	checkLook(t, b, 3, v(3))
}

// P9.1: what is no Var is walked to itself, whatever Vars stand in it, and whatever stands in the bindings.
func TestWalkOfOthers(t *testing.T) {
	b := []api.Bind{to(0, a("z")), to(1, v(0)), to(2, v(2)), to(-1, a("z")), to(3, f("f", v(0)))}
	for _, x := range all() {
		checkWalk(t, nil, x, x)
		if x.Kind != api.Var {
			checkWalk(t, b, x, x)
		}
	}
	checkWalk(t, b, v(9), v(9))
	checkWalk(t, b, api.Term{Kind: api.Var, Name: "X", N: 9}, api.Term{Kind: api.Var, Name: "X", N: 9})
}

// P9.1: what a Var is bound to comes whole, and Vars that stand in it stay.
func TestWalk(t *testing.T) {
	for _, x := range all() {
		if x.Kind == api.Var {
			continue
		}
		for _, count := range []int{1, 2, 3, 10, 100, 2000} {
			checkWalk(t, chain(count, x), v(0), x)
			checkWalk(t, chain(count, x), v(int64(count-1)), x)
		}
	}
	b := []api.Bind{to(5, v(-3)), to(-3, v(top)), to(top, v(low)), to(low, v(9)), to(1, a("a")), to(2, f("f", v(1), v(5)))}
	for _, n := range []int64{5, -3, top, low, 9} {
		checkWalk(t, b, v(n), v(9))
	}
	checkWalk(t, b, v(1), a("a"))
	checkWalk(t, b, v(2), f("f", v(1), v(5)))
	// A Var that may not be is bound all the same; nothing of it is left.
	checkWalk(t, b, api.Term{Kind: api.Var, Name: "X", N: 1, Args: []api.Term{v(0)}}, a("a"))
}

// P9.1: just 2000 bindings may be followed, whatever the last one is bound to; a walk of no bindings asks for none.
func TestWalkSteps(t *testing.T) {
	for _, end := range []api.Term{a("a"), i(7), f("f", v(0), v(1)), v(5000), v(-1), none} {
		for _, count := range []int{1998, 1999, 2000} {
			checkWalk(t, chain(count, end), v(0), end)
		}
		for _, count := range []int{2001, 2002, 4000} {
			checkNoWalk(t, chain(count, end), v(0))
			checkWalk(t, chain(count, end), v(int64(count-2000)), end)
			checkNoWalk(t, chain(count, end), v(int64(count-2001)))
			checkWalk(t, chain(count, end), f("f", v(0)), f("f", v(0)))
		}
	}
}

// P9.1: and a ring never ends, whether one comes into it from outside or not.
func TestWalkOfRings(t *testing.T) {
	for _, count := range []int{1, 2, 3, 7, 1000, 1999, 2000, 2001} {
		b := append(ring(count), to(-1, v(0)), to(-2, v(-1)), to(-3, f("f", v(0))))
		for _, n := range []int64{0, int64(count) - 1, -1, -2} {
			checkNoWalk(t, b, v(n))
		}
		checkWalk(t, b, v(-3), f("f", v(0)))
		checkWalk(t, append(b, to(0, a("a"))), v(-2), a("a"))
	}
}

// P9.3
func TestFresh(t *testing.T) {
	for _, x := range []struct{ n, next, want int64 }{
		{0, 0, 0}, {0, 1, 1}, {0, 10, 10}, {2, 10, 12}, {5, 0, 5}, {5, -5, 0}, {5, -6, -1}, {-1, 1, 0}, {-3, -4, -7}, {1 << 31, 1 << 31, 1 << 32}, {1 << 32, 1, 1<<32 + 1},
		{0, top, top}, {1, top, low}, {top, 1, low}, {top, 2, low + 1}, {top, top, -2}, {0, low, low}, {-1, low, top}, {low, -1, top}, {low, low, 0}, {low, top, -1}, {top, low, -1}, {top, 0, top}, {low, 0, low},
	} {
		if got := Fresh(v(x.n), x.next); !term.Same(got, v(x.want)) {
			t.Errorf("Fresh of %d by %d: got %s, want %d", x.n, x.next, picture(got), x.want)
		}
		nested := func(n int64) api.Term {
			return f("f", v(n), f("g", i(x.n), f("h", v(n)), a("a")), v(n), under(100, v(n)))
		}
		if got := Fresh(nested(x.n), x.next); !term.Same(got, nested(x.want)) {
			t.Errorf("Fresh of nested %d by %d: got %s", x.n, x.next, picture(got))
		}
	}
	if got := Fresh(f("f", v(0), v(3), v(1), v(0)), 7); !term.Same(got, f("f", v(7), v(10), v(8), v(7))) {
		t.Errorf("got %s", picture(got))
	}
}

// P9.3: nothing but the Vars' numbers is another one.
func TestFreshOfOthers(t *testing.T) {
	for _, next := range []int64{0, 1, -1, 200, top, low} {
		for _, x := range all() {
			if got := Fresh(x, next); !term.Same(got, wantFresh(x, next)) {
				t.Errorf("Fresh of %s by %d: got %s", picture(x), next, picture(got))
			}
		}
	}
}

// wantFresh goes by the words of P9.3.
func wantFresh(x api.Term, next int64) api.Term {
	out := x
	if x.Kind == api.Var {
		out.N += next
	}
	out.Args = nil
	for _, arg := range x.Args {
		out.Args = append(out.Args, wantFresh(arg, next))
	}
	return out
}
