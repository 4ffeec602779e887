package build

import (
	"math"
	"slices"
	"strconv"
	"testing"

	"spinney/api"
	"spinney/term"
)

const (
	top = math.MaxInt64
	low = math.MinInt64
)

// firstNew is the next new Var of all calls that do not ask for another one.
const firstNew = 50

func v(n int64) api.Term { return api.Term{Kind: api.Var, N: n} }

func a(name string) api.Term { return api.Term{Kind: api.Atom, Name: name} }

func i(n int64) api.Term { return api.Term{Kind: api.Int, N: n} }

func f(name string, args ...api.Term) api.Term {
	return api.Term{Kind: api.Comp, Name: name, Args: args}
}

// listed is a list of these, open one that has another end.
func listed(l ...api.Term) api.Term { return open(a("[]"), l...) }

func open(end api.Term, l ...api.Term) api.Term {
	for _, x := range slices.Backward(l) {
		end = f(".", x, end)
	}
	return end
}

// vars are so many Vars from first on.
func vars(first int64, count int) []api.Term {
	var out []api.Term
	for n := range int64(count) {
		out = append(out, v(first+n))
	}
	return out
}

// letters are so many Atoms, no two of them the same.
func letters(count int) []api.Term {
	var out []api.Term
	for n := range count {
		out = append(out, a(string(rune('a'+n))))
	}
	return out
}

func to(n int64, t api.Term) api.Bind { return api.Bind{Var: n, To: t} }

// chain binds so many Vars from first on, each one to the next, the last one to end.
func chain(first int64, count int, end api.Term) []api.Bind {
	var out []api.Bind
	for n := range int64(count) {
		out = append(out, to(first+n, v(first+n+1)))
	}
	out[count-1].To = end
	return out
}

// loops are bindings that go round: of 900 and 901; and loop is one of these Vars.
func loops() []api.Bind { return chain(900, 2, v(900)) }

func loop() api.Term { return v(900) }

// picture tells all of a term, whatever it is.
func picture(t api.Term) string {
	out := strconv.Itoa(t.Kind) + strconv.Quote(t.Name) + strconv.FormatInt(t.N, 10) + "["
	for _, x := range t.Args {
		out += picture(x)
	}
	return out + "]"
}

func pictures(l ...api.Term) string {
	out := ""
	for _, x := range l {
		out += " " + picture(x)
	}
	return out
}

func pictureBindings(b []api.Bind) string {
	out := ""
	for _, x := range b {
		out += strconv.FormatInt(x.Var, 10) + ": " + picture(x.To) + "\n"
	}
	return out
}

func pictureOut(o api.Out) string {
	return strconv.FormatBool(o.Ok) + ", " + strconv.FormatInt(o.Next, 10) + ", " + strconv.Itoa(int(o.E)) + ":\n" + pictureBindings(o.B)
}

func sameBindings(one, other []api.Bind) bool {
	return slices.EqualFunc(one, other, func(x, y api.Bind) bool { return x.Var == y.Var && term.Same(x.To, y.To) })
}

func sameOut(one, other api.Out) bool {
	return one.Ok == other.Ok && one.Next == other.Next && one.E == other.E && sameBindings(one.B, other.B)
}

// holding is what comes of a call that holds, with just these bindings behind those that are there.
func holding(b []api.Bind, next int64, made ...api.Bind) api.Out {
	return api.Out{Ok: true, B: slices.Concat(b, made), Next: next}
}

// not is what comes of a call that does not hold.
func not() api.Out { return api.Out{} }

// told is what comes of one that tells an error.
func told(e api.Errno) api.Out { return api.Out{E: e} }

// checkOut holds what came of a call that was handed these terms.
func checkOut(t *testing.T, got, want api.Out, handed ...api.Term) {
	t.Helper()
	if !sameOut(got, want) {
		t.Errorf("of%s: got %swant %s", pictures(handed...), pictureOut(got), pictureOut(want))
	}
}

func checkFunctor(t *testing.T, b []api.Bind, x, name, arity api.Term, want api.Out) {
	t.Helper()
	checkOut(t, Functor(b, firstNew, x, name, arity), want, x, name, arity)
}

func checkArg(t *testing.T, b []api.Bind, n, x, arg api.Term, want api.Out) {
	t.Helper()
	checkOut(t, Arg(b, firstNew, n, x, arg), want, n, x, arg)
}

func checkUniv(t *testing.T, b []api.Bind, x, l api.Term, want api.Out) {
	t.Helper()
	checkOut(t, Univ(b, firstNew, x, l), want, x, l)
}

// strange are terms of other Kinds than there are.
func strange() []api.Term {
	return []api.Term{{}, {Kind: -1}, {Kind: 5}, {Kind: 5, Name: "f", N: 3, Args: []api.Term{v(0), a("a")}}, {Kind: low, Name: "[]"}, {Kind: top, Name: ".", Args: []api.Term{a("a"), a("[]")}}}
}

// comps are of all numbers of Args that there are, and some more.
func comps() []api.Term {
	var out []api.Term
	for count := range 19 {
		out = append(out, f("f", letters(count)...), f("f", vars(100, count)...), f("f", slices.Repeat([]api.Term{v(100)}, count)...))
	}
	return append(out, f("."), f("[]", a("a")), listed(a("a"), v(100)), f("é ", i(low)), f("\xff", strange()...))
}

// leaves are Atoms and Ints.
func leaves() []api.Term {
	return []api.Term{a("a"), a("A b"), a(""), a("[]"), a("."), a("é"), a("\xff"), a("0"), i(0), i(1), i(-1), i(16), i(top), i(low)}
}

// The chapter's examples.
func TestExamples(t *testing.T) {
	checkFunctor(t, nil, f("f", a("a"), a("b")), v(0), v(1), holding(nil, firstNew, to(0, a("f")), to(1, i(2))))
	checkFunctor(t, nil, v(0), a("f"), i(2), holding(nil, firstNew+2, to(0, f("f", v(firstNew), v(firstNew+1)))))
	checkArg(t, nil, i(2), f("f", a("a"), a("b")), v(0), holding(nil, firstNew, to(0, a("b"))))
	checkUniv(t, nil, f("f", a("a")), v(0), holding(nil, firstNew, to(0, listed(a("f"), a("a")))))
}
