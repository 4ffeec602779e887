package clause

import (
	"math"
	"slices"
	"strconv"
	"strings"
	"testing"

	"spinney/api"
	"spinney/term"
)

const (
	top = math.MaxInt64
	low = math.MinInt64
)

func v(n int64) api.Term { return api.Term{Kind: api.Var, N: n} }

func a(name string) api.Term { return api.Term{Kind: api.Atom, Name: name} }

func i(n int64) api.Term { return api.Term{Kind: api.Int, N: n} }

func f(name string, args ...api.Term) api.Term {
	return api.Term{Kind: api.Comp, Name: name, Args: args}
}

// under is t under so many Comps of one Arg.
func under(levels int, t api.Term) api.Term {
	for range levels {
		t = f("s", t)
	}
	return t
}

// and is the body of these, the last one behind a comma of the one ahead of it, and so on.
func and(goals ...api.Term) api.Term {
	body := goals[len(goals)-1]
	for _, goal := range slices.Backward(goals[:len(goals)-1]) {
		body = f(",", goal, body)
	}
	return body
}

// leftAnd is the body of these, nested at the left.
func leftAnd(goals ...api.Term) api.Term {
	body := goals[0]
	for _, goal := range goals[1:] {
		body = f(",", body, goal)
	}
	return body
}

func rule(head, body api.Term) api.Term { return f(":-", head, body) }

// numbered are so many Atoms, all others.
func numbered(count int) []api.Term {
	var out []api.Term
	for n := range count {
		out = append(out, a("g"+strconv.Itoa(n)))
	}
	return out
}

// picture tells all of a term, whatever it is.
func picture(t api.Term) string {
	out := strconv.Itoa(t.Kind) + strconv.Quote(t.Name) + strconv.FormatInt(t.N, 10) + "["
	for _, x := range t.Args {
		out += picture(x)
	}
	return out + "]"
}

func pictures(l []api.Term) string {
	out := ""
	for _, x := range l {
		out += picture(x) + "\n"
	}
	return out
}

func pictureClause(c api.Clause) string {
	return picture(c.Head) + "\n" + pictures(c.Body) + strconv.Itoa(c.Vars)
}

// same tells whether two clauses are one.
func same(a, b api.Clause) bool {
	return term.Same(a.Head, b.Head) && slices.EqualFunc(a.Body, b.Body, term.Same) && a.Vars == b.Vars
}

// checkNumbers holds that a clause's variables are 0 and on, by their first places.
func checkNumbers(t *testing.T, c api.Clause) {
	t.Helper()
	all := term.Vars(f("", append([]api.Term{c.Head}, c.Body...)...))
	for k, n := range all {
		if n != int64(k) {
			t.Errorf("the variables are %v in %s", all, pictureClause(c))
			return
		}
	}
	if len(all) != c.Vars {
		t.Errorf("%d variables in %s", len(all), pictureClause(c))
	}
}

// checkAgain holds P8.5 of a clause, as far as the term of it is none that is too deep to be: goals that were nested in a few
// levels are nested in as many as there are goals.
func checkAgain(t *testing.T, c api.Clause) {
	t.Helper()
	checkNumbers(t, c)
	x := Term(c)
	again, e := Make(x)
	if term.Deep(x) > api.MaxDeep {
		if e != api.ErrDeep || !same(again, api.Clause{}) {
			t.Errorf("the clause of a term that is too deep: %d", e)
		}
		return
	}
	if e != api.OK || !same(again, c) {
		t.Errorf("got %d and %s, want %s", e, pictureClause(again), pictureClause(c))
	}
}

// checkMade holds that the clause of a term is that one, and P8.5 of it.
func checkMade(t *testing.T, x api.Term, want api.Clause) {
	t.Helper()
	got, e := Make(x)
	if e != api.OK || !same(got, want) {
		t.Errorf("Make(%s): got %d and %s, want %s", picture(x), e, pictureClause(got), pictureClause(want))
		return
	}
	checkAgain(t, got)
}

// checkUnmade holds that there is no clause of a term, and that nothing is told beside the error.
func checkUnmade(t *testing.T, x api.Term, want api.Errno) {
	t.Helper()
	got, e := Make(x)
	if e != want || !same(got, api.Clause{}) {
		t.Errorf("Make(%s): got %d and %s, want %d", picture(x), e, pictureClause(got), want)
	}
}

// checkGoals holds that a body's goals are these, also where it stands in a clause.
func checkGoals(t *testing.T, body api.Term, want ...api.Term) {
	t.Helper()
	got, e := Goals(body)
	if e != api.OK || !slices.EqualFunc(got, want, term.Same) {
		t.Errorf("Goals(%s): got %d and\n%swant\n%s", picture(body), e, pictures(got), pictures(want))
	}
	if len(term.Vars(body)) == 0 && term.Deep(body) < api.MaxDeep {
		checkMade(t, rule(a("p"), body), api.Clause{Head: a("p"), Body: want})
	}
}

// checkNoGoals holds that a body has none, and that nothing is told beside the error.
func checkNoGoals(t *testing.T, body api.Term, want api.Errno) {
	t.Helper()
	if got, e := Goals(body); e != want || len(got) != 0 {
		t.Errorf("Goals(%s): got %d and\n%swant %d", picture(body), e, pictures(got), want)
	}
	if term.Deep(body) < api.MaxDeep {
		checkUnmade(t, rule(a("p"), body), want)
	}
}

// arities are the builtin procedures, each with its number of arguments.
var arities = func() map[string]int {
	out := map[string]int{}
	for arity, names := range []string{"true fail !", "var nonvar atom integer atomic compound", `= \= == \== @< @=< @> @>= =.. is =:= =\= < =< > >=`, "functor arg"} {
		for _, name := range strings.Fields(names) {
			out[name] = arity
		}
	}
	return out
}()

// P8.1: each with its number of arguments, and with any other.
func TestBuiltins(t *testing.T) {
	if len(arities) != 27 {
		t.Fatalf("the test's own table has %d", len(arities))
	}
	counts := []int{low, low + 1, math.MinInt32, math.MaxInt32, 1 << 32, 1<<32 + 1, 1<<32 + 2, top}
	for arity := -20; arity <= 300; arity++ {
		counts = append(counts, arity)
	}
	for name, want := range arities {
		for _, arity := range counts {
			if Builtin(name, arity) != (arity == want) {
				t.Errorf("Builtin(%q, %d): got %t", name, arity, arity != want)
			}
		}
	}
}

// P8.1
func TestNoBuiltins(t *testing.T) {
	known := arities
	none := []string{
		"", " ", "a", "foo", "True", "TRUE", "false", "tru", "truee", "fail ", "!!", "Var", "variable", "number", "callable", "atomics", "compounds", "functors", "args", "arg3", "Is", "IS", "isnt", "not", "call", "halt", "once",
		"assert", "write", "nl", "catch", "findall", "copy_term", "length", "append", "member", "[]", "{}", ".", "|", ",", ";", "->", ":-", "?-", `\+`, "+", "-", "*", "//", "rem", "mod", "<=", "=>", "=@=", "@", "@=", "===", `\`, `\\=`, `\====`,
		"=.", "...", "=:", ":=", "=/=", "≤", "\xff", "is\xff", "\x00", strings.Repeat("=", 1000),
	}
	for name := range known {
		none = append(none, name+" ", " "+name, name+"\x00", name+"_", "'"+name+"'", name+","+name, name+"/2")
	}
	for _, name := range none {
		if _, is := known[name]; is {
			t.Fatalf("%q is a builtin procedure's", name)
		}
		for arity := -2; arity <= 17; arity++ {
			if Builtin(name, arity) {
				t.Errorf("Builtin(%q, %d)", name, arity)
			}
		}
	}
}

// lacking are the procedures that the language has not.
func lacking() []api.Term {
	x, y := a("x"), v(0)
	return []api.Term{f(";", x, y), f("->", x, y), f(":-", x, y), f(`\+`, x), f(":-", x), f("?-", x), f(";", f("->", x, x), x), f(":-", i(1), i(2)), f(`\+`, f(`\+`, v(3))), f(";", f(",", x, x), f(",", x, x))}
}

// unlike are goals of the same names, but of other numbers of arguments.
func unlike() []api.Term {
	x := a("x")
	out := []api.Term{f(",", x), f(",", x, x, x), f(`\+`, x, x), f("?-", x, x), f(":-", x, x, x), f(";", x), f("->", x)}
	for _, name := range []string{",", ";", "->", ":-", "?-", `\+`} {
		out = append(out, a(name), f(name, x, x, x), f(name, slices.Repeat([]api.Term{x}, 16)...), f(name+" ", x), f(name+" ", x, x))
	}
	return out
}

// plain are goals of other names.
func plain() []api.Term {
	x := a("x")
	return []api.Term{a("a"), a(""), a("[]"), a("{}"), a("A"), a("."), f("f", x), f("f", x, i(1), f("g", i(-2))), f(".", x, a("[]")), f("{}", f(",", x, x)), f("f", f(",", x, x)), f("f", f(";", x, x), i(0)), f("+", i(1), i(2)), f("-", x), f("call", f(`\+`, x)), f("is", x), f("true", x), a("functor"), under(57, x)}
}

// builtins are goals of the builtin procedures.
func builtins() []api.Term {
	var out []api.Term
	for name, arity := range arities {
		x := a(name)
		if arity > 0 {
			x = f(name, slices.Repeat([]api.Term{i(7)}, arity)...)
		}
		out = append(out, x)
	}
	return out
}

// P8.2: a goal alone, and among others.
func TestGoals(t *testing.T) {
	one, other := f("p", i(1)), a("!")
	for _, x := range slices.Concat(plain(), builtins(), unlike(), []api.Term{a("if"), f("f", f(":-", a("x"), a("y")))}) {
		checkGoals(t, x, x)
		checkGoals(t, f(",", x, one), x, one)
		checkGoals(t, f(",", one, x), one, x)
		checkGoals(t, f(",", x, x), x, x)
		checkGoals(t, f(",", f(",", one, x), other), one, x, other)
		checkGoals(t, f(",", one, f(",", x, other)), one, x, other)
	}
	checkGoals(t, f("p", v(7), v(3), v(7)), f("p", v(7), v(3), v(7)))
	checkGoals(t, f(",", f("p", v(7)), f("q", v(top), v(0))), f("p", v(7)), f("q", v(top), v(0)))
}

// P8.2: of all ways in which four goals may be nested, each goal once and in order.
func TestNestedGoals(t *testing.T) {
	w, x, y, z := a("w"), f("x", i(1)), a("y"), f("z", a("w"), i(2))
	for _, body := range []api.Term{
		and(w, x, y, z), leftAnd(w, x, y, z), f(",", f(",", w, x), f(",", y, z)), f(",", f(",", w, f(",", x, y)), z), f(",", w, f(",", f(",", x, y), z)),
	} {
		checkGoals(t, body, w, x, y, z)
		checkGoals(t, f(",", body, body), w, x, y, z, w, x, y, z)
	}
}

// P8.2: as many as go: nested at the right, at the left, and in halves.
func TestManyGoals(t *testing.T) {
	for count := 1; count <= 58; count++ {
		l := numbered(count)
		checkGoals(t, and(l...), l...)
		checkGoals(t, leftAnd(l...), l...)
	}
	l := numbered(60)
	checkGoals(t, and(l...), l...)
	checkGoals(t, leftAnd(l...), l...)
	l = numbered(61)
	checkNoGoals(t, and(l...), api.ErrDeep)
	checkNoGoals(t, leftAnd(l...), api.ErrDeep)
	halves := numbered(1 << 12)
	checkGoals(t, halved(halves), halves...)
}

// halved is the body of these, nested in halves.
func halved(l []api.Term) api.Term {
	if len(l) == 1 {
		return l[0]
	}
	return f(",", halved(l[:len(l)/2]), halved(l[len(l)/2:]))
}

// P8.2: what is no goal, alone and among goals.
func TestNoGoals(t *testing.T) {
	for _, x := range append(lacking(), v(0), v(9), v(top), i(0), i(1), i(low)) {
		checkNoGoals(t, x, api.ErrClause)
		checkNoGoals(t, f(",", x, a("a")), api.ErrClause)
		checkNoGoals(t, f(",", a("a"), x), api.ErrClause)
		checkNoGoals(t, f(",", x, x), api.ErrClause)
		for at := range 5 {
			l := numbered(5)
			l[at] = x
			checkNoGoals(t, and(l...), api.ErrClause)
			checkNoGoals(t, leftAnd(l...), api.ErrClause)
		}
	}
}

// wrong are terms that may not be.
func wrong() []api.Term {
	x := a("a")
	out := []api.Term{
		{}, {Kind: 5}, {Kind: -1, Name: "a"}, v(-1), v(low), {Kind: api.Var, Name: "X"}, {Kind: api.Var, Args: []api.Term{x}}, {Kind: api.Int, Name: "1"}, {Kind: api.Int, Args: []api.Term{x}}, {Kind: api.Atom, Name: "a", N: 1}, {Kind: api.Atom, Name: ",", Args: []api.Term{x, x}},
		a("\xff"), a(strings.Repeat("a", 256)), f("f"), f("f", slices.Repeat([]api.Term{x}, 17)...), {Kind: api.Comp, Name: "f", N: 1, Args: []api.Term{x}}, {Kind: api.Comp, Name: ",", N: 1, Args: []api.Term{x, x}}, {Kind: api.Comp, Name: ":-", N: -1, Args: []api.Term{x, x}}, f("\xff", x), f(",", x, v(-1)), f("f", f("f")),
	}
	return append(out, under(100, f("f")))
}

// P8.2, P8.3: what term.Check says, ahead of all else.
func TestTermsThatMayNotBe(t *testing.T) {
	for _, x := range wrong() {
		for _, around := range []api.Term{x, f("p", x), f(",", a("a"), x), f(",", x, a("a")), f(",", i(1), x), f(",", x, v(0)), f(`\+`, x), f(";", x, a("a")), under(200, x)} {
			checkNoGoals(t, around, api.ErrTerm)
			checkUnmade(t, around, api.ErrTerm)
			checkUnmade(t, rule(around, a("a")), api.ErrTerm)
			checkUnmade(t, rule(a("p"), around), api.ErrTerm)
			checkUnmade(t, rule(v(0), around), api.ErrTerm)
			checkUnmade(t, rule(around, v(0)), api.ErrTerm)
		}
	}
	for _, x := range []api.Term{a("x"), v(0), i(1)} {
		at60, at61 := under(59, x), under(60, x)
		checkGoals(t, at60, at60)
		checkNoGoals(t, at61, api.ErrDeep)
		checkNoGoals(t, f(",", a("a"), at60), api.ErrDeep)
		checkNoGoals(t, f(",", i(1), at60), api.ErrDeep)
		checkNoGoals(t, f(`\+`, at60), api.ErrDeep)
		checkUnmade(t, at61, api.ErrDeep)
		checkUnmade(t, rule(at60, a("a")), api.ErrDeep)
		checkUnmade(t, rule(a("a"), at60), api.ErrDeep)
		checkUnmade(t, rule(i(1), at60), api.ErrDeep)
		checkUnmade(t, rule(a("true"), at60), api.ErrDeep)
		checkUnmade(t, f(":-", at60), api.ErrDeep)
		checkNoGoals(t, under(1000, x), api.ErrDeep)
		checkUnmade(t, under(1000, x), api.ErrDeep)
		checkUnmade(t, rule(a("p"), under(1000, x)), api.ErrDeep)
	}
	checkMade(t, under(59, a("x")), api.Clause{Head: under(59, a("x"))})
	checkMade(t, under(59, v(8)), api.Clause{Head: under(59, v(0)), Vars: 1})
	checkMade(t, rule(under(58, v(8)), under(58, v(9))), api.Clause{Head: under(58, v(0)), Body: []api.Term{under(58, v(1))}, Vars: 2})
}
