package unify

import (
	"math"
	"slices"
	"strconv"
	"testing"

	"spinney/api"
	"spinney/term"
)

const (
	top = math.MaxInt64
	low = math.MinInt64
)

func v(n int64) api.Term { return api.Term{Kind: api.Var, N: n} }

func a(name string) api.Term { return api.Term{Kind: api.Atom, Name: name} }

func i(n int64) api.Term { return api.Term{Kind: api.Int, N: n} }

func f(name string, args ...api.Term) api.Term {
	return api.Term{Kind: api.Comp, Name: name, Args: args}
}

// under is t under so many Comps of one Arg.
func under(levels int, t api.Term) api.Term {
	for range levels {
		t = f("s", t)
	}
	return t
}

// list is a list of these.
func list(l ...api.Term) api.Term {
	out := a("[]")
	for _, x := range slices.Backward(l) {
		out = f(".", x, out)
	}
	return out
}

func to(n int64, t api.Term) api.Bind { return api.Bind{Var: n, To: t} }

// picture tells all of a term, whatever it is.
func picture(t api.Term) string {
	out := strconv.Itoa(t.Kind) + strconv.Quote(t.Name) + strconv.FormatInt(t.N, 10) + "["
	for _, x := range t.Args {
		out += picture(x)
	}
	return out + "]"
}

func pictureBindings(b []api.Bind) string {
	out := ""
	for _, x := range b {
		out += strconv.FormatInt(x.Var, 10) + ": " + picture(x.To) + "\n"
	}
	return out
}

// none holds nothing.
var none = api.Term{}

func sameBindings(one, other []api.Bind) bool {
	return slices.EqualFunc(one, other, func(x, y api.Bind) bool { return x.Var == y.Var && term.Same(x.To, y.To) })
}

// checkUnify holds that two terms can be one by just these bindings behind those that are there, whichever is first.
func checkUnify(t *testing.T, b []api.Bind, x, y api.Term, made ...api.Bind) {
	t.Helper()
	want := slices.Concat(b, made)
	if got, is, e := Unify(b, x, y); !is || e != api.OK || !sameBindings(got, want) {
		t.Errorf("Unify: got %t, %d and\n%swant\n%s", is, e, pictureBindings(got), pictureBindings(want))
	}
	if got, is, e := Unify(b, y, x); !is || e != api.OK || !sameBindings(got, want) {
		t.Errorf("Unify turned round: got %t, %d and\n%swant\n%s", is, e, pictureBindings(got), pictureBindings(want))
	}
}

// checkNot holds that two terms are not made one, for that reason (OK: they can't be), whichever is first.
func checkNot(t *testing.T, b []api.Bind, x, y api.Term, want api.Errno) {
	t.Helper()
	if got, is, e := Unify(b, x, y); is || e != want || len(got) != 0 {
		t.Errorf("Unify: got %t, %d, want %d, and\n%s", is, e, want, pictureBindings(got))
	}
	if got, is, e := Unify(b, y, x); is || e != want || len(got) != 0 {
		t.Errorf("Unify turned round: got %t, %d, want %d, and\n%s", is, e, want, pictureBindings(got))
	}
}

// checkClash holds that two terms can't be one, checkLong that there are too many steps.
func checkClash(t *testing.T, b []api.Bind, x, y api.Term) {
	t.Helper()
	checkNot(t, b, x, y, api.OK)
}

func checkLong(t *testing.T, b []api.Bind, x, y api.Term) {
	t.Helper()
	checkNot(t, b, x, y, api.ErrSteps)
}

// others are terms of all kinds but Vars, some that may not be among them; no two of them are the same.
func others() []api.Term {
	return []api.Term{
		i(0), i(1), i(-1), i(1 << 32), i(low), i(top), a(""), a("a"), a("A"), a("[]"), a("_0"), a("it's"), a("é"),
		f("f", v(0)), f("f", v(0), v(1)), f("f", v(2), a("a"), v(2)), f("", v(1)), list(i(1), v(3)), f("g", f("f", a("a"), v(0)), f("f", v(1), i(2))), under(50, v(5)),
		f("f", slices.Repeat([]api.Term{v(3)}, 16)...), f("f", slices.Repeat([]api.Term{f("g", v(0))}, 17)...), f("f"), none, {Kind: 9}, {Kind: -1, Name: "x", N: 3},
		{Kind: api.Int, Name: "1", N: 1}, {Kind: api.Atom, Name: "a", N: 1}, {Kind: api.Comp, Name: "f", N: 1, Args: []api.Term{v(0)}}, a("\xff"), f("\xff", a("a")),
		{Kind: api.Atom, Name: "a", Args: []api.Term{v(0)}}, {Kind: api.Int, N: 1, Args: []api.Term{f("f", v(1))}}, {Kind: 5, Args: []api.Term{v(1), none}},
	}
}

// numbers are those of Vars, some that may not be among them.
func numbers() []int64 {
	return []int64{0, 1, 2, 3, 199, 200, 1<<31 - 1, 1 << 31, 1 << 32, 1<<32 + 1, 1 << 62, top - 1, top, -1, -2, -1 << 32, low + 1, low}
}

// P10.1
func TestExamples(t *testing.T) {
	checkUnify(t, nil, f("f", v(0), a("b")), f("f", a("a"), v(1)), to(0, a("a")), to(1, a("b")))
	checkUnify(t, nil, v(0), f("f", v(0)), to(0, f("f", v(0))))
	checkClash(t, nil, f("f", a("a")), f("g", a("a")))
}

// P10.1: of the same Var nothing comes, whatever else is bound.
func TestSameVar(t *testing.T) {
	for _, n := range numbers() {
		checkUnify(t, nil, v(n), v(n))
		checkUnify(t, []api.Bind{}, v(n), v(n))
		checkUnify(t, []api.Bind{to(7, a("a")), to(-7, v(n))}, v(n), v(n))
		checkUnify(t, []api.Bind{to(7, v(n)), to(-7, v(7))}, v(7), v(-7))
		checkUnify(t, nil, f("f", v(n), v(n)), f("f", v(n), v(n)))
	}
	// By its number alone it is the same, though it may not be.
	checkUnify(t, nil, api.Term{Kind: api.Var, Name: "X", N: 4, Args: []api.Term{a("a")}}, api.Term{Kind: api.Var, N: 4, Args: []api.Term{a("b")}})
}

// P10.1: of two Vars the one with the greater N is bound to the other one, whichever is first.
func TestTwoVars(t *testing.T) {
	for _, n := range numbers() {
		for _, m := range numbers() {
			if n <= m {
				continue
			}
			checkUnify(t, nil, v(n), v(m), to(n, v(m)))
			checkUnify(t, []api.Bind{to(50, v(n)), to(51, v(m))}, v(50), v(51), to(n, v(m)))
			checkUnify(t, []api.Bind{to(50, v(m)), to(51, v(n))}, v(50), v(51), to(n, v(m)))
			checkUnify(t, nil, f("f", v(n), v(m)), f("f", v(m), v(n)), to(n, v(m)))
		}
	}
	strange := api.Term{Kind: api.Var, Name: "X", N: 1, Args: []api.Term{v(3)}}
	checkUnify(t, nil, v(2), strange, to(2, strange))
	checkUnify(t, nil, v(0), strange, to(1, v(0)))
}

// P10.1: a Var is bound to what is none, whatever that is, and from either side, also where it stands in it.
func TestVarAndOthers(t *testing.T) {
	for _, x := range others() {
		for _, n := range numbers() {
			checkUnify(t, nil, v(n), x, to(n, x))
			checkUnify(t, []api.Bind{to(60, a("z")), to(61, v(62))}, v(n), x, to(n, x))
			checkUnify(t, []api.Bind{to(60, v(n)), to(61, x)}, v(60), v(61), to(n, x))
			checkUnify(t, nil, f("h", v(n)), f("h", x), to(n, x))
			checkUnify(t, nil, f("h", a("a"), v(n), a("b")), f("h", a("a"), x, a("b")), to(n, x))
		}
	}
	for _, x := range []api.Term{f("f", v(4)), f("f", v(4), v(4)), f("f", a("a"), f("g", v(4), v(1))), list(v(4)), under(100, v(4))} {
		checkUnify(t, nil, v(4), x, to(4, x))
		checkUnify(t, []api.Bind{to(5, v(4))}, v(5), x, to(4, x))
		checkUnify(t, []api.Bind{to(5, x)}, v(4), v(5), to(4, x))
	}
}

// P10.1: of what are no Vars, Kind, Name, N and how many Args there are must be the same.
func TestOutsides(t *testing.T) {
	for k, x := range others() {
		for m, y := range others() {
			if x.Kind == y.Kind && x.Name == y.Name && x.N == y.N && len(x.Args) == len(y.Args) {
				if k == m {
					checkUnify(t, nil, x, y)
				}
				continue
			}
			checkClash(t, nil, x, y)
			checkClash(t, []api.Bind{to(0, a("z")), to(9, x)}, v(9), y)
			checkClash(t, []api.Bind{to(8, x), to(9, y)}, v(9), v(8))
			checkClash(t, nil, f("h", x), f("h", y))
			checkClash(t, nil, f("h", v(70), v(71), x), f("h", a("a"), v(72), y))
		}
	}
}

// P10.1: one thing that is another one is enough, each of them in turn.
func TestOneThing(t *testing.T) {
	args := []api.Term{a("a"), v(0)}
	for _, x := range []api.Term{f("f", args...), {Kind: api.Comp, Name: "f", N: 5, Args: args}, {Kind: api.Atom, Name: "f", N: 5, Args: args}, {Kind: api.Int, Name: "f", N: -5, Args: args}, {Kind: 0, Name: "f", N: 5, Args: args}} {
		checkUnify(t, nil, x, x)
		y := x
		y.Kind = 8
		checkClash(t, nil, x, y)
		y = x
		y.Name = "ff"
		checkClash(t, nil, x, y)
		y.Name = "F"
		checkClash(t, nil, x, y)
		y = x
		y.N++
		checkClash(t, nil, x, y)
		y.N = x.N + 1<<32
		checkClash(t, nil, x, y)
		y = x
		y.Args = args[:1]
		checkClash(t, nil, x, y)
		y.Args = append(slices.Clone(args), v(1))
		checkClash(t, nil, x, y)
		y.Args = nil
		checkClash(t, nil, x, y)
		y.Args = []api.Term{a("a"), v(1)}
		checkUnify(t, nil, x, y, to(1, v(0)))
		y.Args = []api.Term{a("b"), v(0)}
		checkClash(t, nil, x, y)
	}
}

// P10.1: Comps, their Args from the first on; as soon as two can't be one there is nothing, whatever was bound ahead.
func TestComps(t *testing.T) {
	for _, x := range []struct{ x, y api.Term }{
		{f("f", v(0), a("a")), f("f", a("b"), a("c"))},
		{f("f", a("a"), v(0)), f("f", a("c"), a("b"))},
		{f("f", v(0), v(1), v(2), i(1)), f("f", a("a"), a("b"), a("c"), i(2))},
		{f("f", v(0), f("g", v(1), a("x"))), f("f", a("a"), f("g", a("b"), a("y")))},
		{f("f", f("g", v(1), a("x")), v(0)), f("f", f("g", a("b"), a("y")), a("a"))},
		{f("f", v(0), f("g", v(1))), f("f", a("a"), f("h", v(1)))},
		{f("f", v(0), f("g", v(1))), f("f", a("a"), f("g", v(1), v(2)))},
		{list(v(0), v(1)), list(a("a"))}, {list(v(0)), list()},
	} {
		checkClash(t, nil, x.x, x.y)
	}
	for _, x := range []struct {
		x, y api.Term
		made []api.Bind
	}{
		{f("f", v(0)), f("f", a("a")), []api.Bind{to(0, a("a"))}},
		{f("f", v(0), v(1), v(2)), f("f", a("a"), i(1), f("g", v(3))), []api.Bind{to(0, a("a")), to(1, i(1)), to(2, f("g", v(3)))}},
		{f("f", v(2), v(1), v(0)), f("f", v(3), v(4), v(5)), []api.Bind{to(3, v(2)), to(4, v(1)), to(5, v(0))}},
		{f("f", f("g", v(5), v(4)), f("g", v(3), v(2)), v(1)), f("f", f("g", a("a"), a("b")), f("g", a("c"), a("d")), a("e")), []api.Bind{to(5, a("a")), to(4, a("b")), to(3, a("c")), to(2, a("d")), to(1, a("e"))}},
		{f("f", f("g", f("h", v(0)), v(1)), v(2)), f("f", f("g", f("h", i(0)), i(1)), i(2)), []api.Bind{to(0, i(0)), to(1, i(1)), to(2, i(2))}},
		{list(v(0), v(1), v(2)), f(".", a("a"), v(3)), []api.Bind{to(0, a("a")), to(3, list(v(1), v(2)))}},
		{under(300, f("f", v(0), v(1))), under(300, f("f", a("a"), a("b"))), []api.Bind{to(0, a("a")), to(1, a("b"))}},
	} {
		checkUnify(t, nil, x.x, x.y, x.made...)
		there := []api.Bind{to(90, a("z")), to(91, v(0))}
		checkUnify(t, there, x.x, x.y, x.made...)
	}
}

// P10.1: what an Arg was bound to ahead counts for the later ones.
func TestVarsAgain(t *testing.T) {
	checkUnify(t, nil, f("f", v(0), v(0)), f("f", a("a"), a("a")), to(0, a("a")))
	checkClash(t, nil, f("f", v(0), v(0)), f("f", a("a"), a("b")))
	checkUnify(t, nil, f("f", v(0), v(0)), f("f", v(1), a("a")), to(1, v(0)), to(0, a("a")))
	checkUnify(t, nil, f("f", v(1), v(1)), f("f", v(0), a("a")), to(1, v(0)), to(0, a("a")))
	checkUnify(t, nil, f("f", v(0), v(1), v(2)), f("f", v(1), v(2), a("c")), to(1, v(0)), to(2, v(0)), to(0, a("c")))
	checkUnify(t, nil, f("f", v(2), v(1), v(0)), f("f", v(1), v(0), v(2)), to(2, v(1)), to(1, v(0)))
	checkUnify(t, nil, f("g", v(0), f("h", v(0))), f("g", f("h", v(1)), v(2)), to(0, f("h", v(1))), to(2, f("h", v(0))))
	checkUnify(t, nil, f("g", v(0), f("h", v(0))), f("g", f("h", v(1)), f("h", f("h", a("a")))), to(0, f("h", v(1))), to(1, a("a")))
	checkUnify(t, nil, f("f", v(0), f("g", v(0), v(1)), v(1)), f("f", a("a"), f("g", v(2), v(2)), v(3)), to(0, a("a")), to(2, a("a")), to(1, a("a")), to(3, a("a")))
	checkClash(t, nil, f("f", v(0), f("g", v(0), v(1)), v(1)), f("f", a("a"), f("g", v(2), v(2)), a("b")))
	checkClash(t, nil, f("f", v(0), v(1), v(0)), f("f", v(1), a("a"), a("b")))
	checkUnify(t, nil, f("f", v(0), v(1)), f("f", f("g", v(1)), f("g", v(0))), to(0, f("g", v(1))), to(1, f("g", v(0))))
}

// P10.1: by the bindings that are there, of which, of one Var, the last one counts; they stay at the beginning, in order.
func TestUnderBindings(t *testing.T) {
	b := []api.Bind{to(4, v(3)), to(0, a("a")), to(1, v(0)), to(3, v(2)), to(5, f("f", v(2), v(0))), to(0, a("b")), to(6, v(4)), to(-1, v(5)), to(9, none)}
	for _, x := range []struct {
		x, y api.Term
		made []api.Bind
	}{
		{v(0), a("b"), nil}, {v(1), a("b"), nil}, {v(0), v(1), nil}, {v(6), v(4), nil}, {v(6), v(2), nil}, {v(9), none, nil}, {v(5), v(-1), nil},
		{v(6), a("c"), []api.Bind{to(2, a("c"))}}, {v(6), v(1), []api.Bind{to(2, a("b"))}}, {v(6), v(7), []api.Bind{to(7, v(2))}}, {v(6), v(-7), []api.Bind{to(2, v(-7))}},
		{v(7), v(-1), []api.Bind{to(7, f("f", v(2), v(0)))}}, {v(3), v(5), []api.Bind{to(2, f("f", v(2), v(0)))}}, {v(5), f("f", i(1), a("b")), []api.Bind{to(2, i(1))}},
		{f("g", v(4), v(5)), f("g", i(1), f("f", v(8), v(7))), []api.Bind{to(2, i(1)), to(8, i(1)), to(7, a("b"))}},
		{v(-1), f("f", v(7), v(1)), []api.Bind{to(7, v(2))}},
	} {
		checkUnify(t, b, x.x, x.y, x.made...)
	}
	for _, x := range []struct{ x, y api.Term }{
		{v(0), a("a")}, {v(1), a("a")}, {v(9), a("a")}, {v(5), f("f", i(1), a("a"))}, {v(-1), f("f", v(7))}, {v(5), v(1)}, {f("g", v(4), v(5)), f("g", i(1), f("f", i(2), v(7)))},
	} {
		checkClash(t, b, x.x, x.y)
	}
}

// P10.1: what was bound by one call is there in the next one.
func TestOneCallBehindAnother(t *testing.T) {
	var b []api.Bind
	for n := range int64(500) {
		next, is, e := Unify(b, v(n), f("s", v(n+1)))
		if !is || e != api.OK || len(next) != len(b)+1 {
			t.Fatalf("%d: got %t, %d and %d bindings", n, is, e, len(next))
		}
		b = next
	}
	checkUnify(t, b, v(0), under(500, a("z")), to(500, a("z")))
	checkUnify(t, b, v(0), under(450, v(1000)), to(1000, f("s", v(451))))
	checkClash(t, b, v(0), under(500, f("f")).Args[0])
}
