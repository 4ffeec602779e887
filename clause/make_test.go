package clause

import (
	"math"
	"slices"
	"testing"

	"spinney/api"
	"spinney/term"
)

// P8.3
func TestExamples(t *testing.T) {
	checkMade(t, rule(f("p", v(0)), and(f("q", v(0), v(1)), a("!"))), api.Clause{Head: f("p", v(0)), Body: []api.Term{f("q", v(0), v(1)), a("!")}, Vars: 2})
	checkProgram(t, "p(X) :- q(X, Y), !.", api.Clause{Head: f("p", v(0)), Body: []api.Term{f("q", v(0), v(1)), a("!")}, Vars: 2})
	for _, src := range []string{"X = Y.", ":- a.", "a :- 1.", "a :- b ; c."} {
		checkNoProgram(t, src, 0, api.ErrClause)
	}
}

// P8.3: facts, and clauses of one goal and of many.
func TestMake(t *testing.T) {
	for _, head := range append(plain(), unlike()...) {
		checkMade(t, head, api.Clause{Head: head})
		if head.Kind == api.Comp && term.Deep(head) > 50 {
			continue
		}
		for _, goal := range slices.Concat(plain()[:9], builtins(), unlike()) {
			checkMade(t, rule(head, goal), api.Clause{Head: head, Body: []api.Term{goal}})
			checkMade(t, rule(head, and(goal, head, goal)), api.Clause{Head: head, Body: []api.Term{goal, head, goal}})
			checkMade(t, rule(head, leftAnd(goal, head, goal)), api.Clause{Head: head, Body: []api.Term{goal, head, goal}})
		}
	}
	for count := 1; count <= 59; count++ {
		l := numbered(count)
		checkMade(t, rule(a("p"), and(l...)), api.Clause{Head: a("p"), Body: l})
		checkMade(t, rule(a("p"), leftAnd(l...)), api.Clause{Head: a("p"), Body: l})
	}
}

// P8.3: heads that are none, of facts and of clauses with goals.
func TestNoHeads(t *testing.T) {
	none := slices.Concat(lacking(), builtins(), []api.Term{v(0), v(5), v(top), i(0), i(1), i(-1), i(low), f(",", a("a"), a("b")), f(",", f(",", a("a"), a("b")), a("c"))})
	for _, head := range none {
		checkUnmade(t, rule(head, a("a")), api.ErrClause)
		checkUnmade(t, rule(head, and(a("a"), f("q", v(1)), a("!"))), api.ErrClause)
		checkUnmade(t, rule(head, head), api.ErrClause)
		if !isRule(head) {
			checkUnmade(t, head, api.ErrClause)
		}
	}
}

// isRule tells whether a term has a head and a body.
func isRule(x api.Term) bool { return x.Kind == api.Comp && x.Name == ":-" && len(x.Args) == 2 }

// P8.3: a builtin procedure's name with another number of arguments is a head like any other.
func TestHeadsNamedAsBuiltins(t *testing.T) {
	for name, arity := range arities {
		for count := 0; count <= 16; count++ {
			head := f(name, slices.Repeat([]api.Term{i(1)}, count)...)
			if count == 0 {
				head = a(name)
			}
			if count == arity {
				checkUnmade(t, head, api.ErrClause)
				checkUnmade(t, rule(head, a("a")), api.ErrClause)
				continue
			}
			checkMade(t, head, api.Clause{Head: head})
			checkMade(t, rule(head, a("a")), api.Clause{Head: head, Body: []api.Term{a("a")}})
		}
	}
}

// P8.3: variables are numbered by their first places, the head ahead of the body.
func TestVariables(t *testing.T) {
	for _, x := range []struct {
		t    api.Term
		want api.Clause
	}{
		{f("p", v(0)), api.Clause{Head: f("p", v(0)), Vars: 1}},
		{f("p", v(9)), api.Clause{Head: f("p", v(0)), Vars: 1}},
		{f("p", v(7), v(3), v(7)), api.Clause{Head: f("p", v(0), v(1), v(0)), Vars: 2}},
		{f("p", v(1), v(0)), api.Clause{Head: f("p", v(0), v(1)), Vars: 2}},
		{f("p", v(2), v(1), v(0), v(1), v(2)), api.Clause{Head: f("p", v(0), v(1), v(2), v(1), v(0)), Vars: 3}},
		{f("p", f("f", v(5), f("g", v(4))), v(5), i(4), v(3)), api.Clause{Head: f("p", f("f", v(0), f("g", v(1))), v(0), i(4), v(2)), Vars: 3}},
		{f("p", i(9), i(-9)), api.Clause{Head: f("p", i(9), i(-9))}},
		{rule(a("p"), f("q", v(4))), api.Clause{Head: a("p"), Body: []api.Term{f("q", v(0))}, Vars: 1}},
		{rule(f("p", v(2)), f("q", v(1))), api.Clause{Head: f("p", v(0)), Body: []api.Term{f("q", v(1))}, Vars: 2}},
		{rule(f("p", v(1)), f("q", v(2), v(1))), api.Clause{Head: f("p", v(0)), Body: []api.Term{f("q", v(1), v(0))}, Vars: 2}},
		{rule(f("p", v(5), v(4)), and(f("q", v(4), v(3)), f("r", v(3), v(5)), f("s", v(6), v(2)))), api.Clause{Head: f("p", v(0), v(1)), Body: []api.Term{f("q", v(1), v(2)), f("r", v(2), v(0)), f("s", v(3), v(4))}, Vars: 5}},
		{rule(f("p", v(5), v(4)), leftAnd(f("q", v(4), v(3)), f("r", v(3), v(5)), f("s", v(6), v(2)))), api.Clause{Head: f("p", v(0), v(1)), Body: []api.Term{f("q", v(1), v(2)), f("r", v(2), v(0)), f("s", v(3), v(4))}, Vars: 5}},
		{rule(a("p"), and(f("is", v(8), f("+", v(6), v(8))), a("!"), f("=", v(7), v(6)))), api.Clause{Head: a("p"), Body: []api.Term{f("is", v(0), f("+", v(1), v(0))), a("!"), f("=", v(2), v(1))}, Vars: 3}},
		{rule(f("p", v(top)), f("q", v(top-1), v(top), v(0))), api.Clause{Head: f("p", v(0)), Body: []api.Term{f("q", v(1), v(0), v(2))}, Vars: 3}},
		{f("p", v(math.MaxInt32), v(1<<32), v(1<<33), v(1<<32), v(1<<62)), api.Clause{Head: f("p", v(0), v(1), v(2), v(1), v(3)), Vars: 4}},
		{rule(f("p", f(",", v(3), v(2))), f("q", f(":-", v(1), v(3)))), api.Clause{Head: f("p", f(",", v(0), v(1))), Body: []api.Term{f("q", f(":-", v(2), v(0)))}, Vars: 3}},
	} {
		checkMade(t, x.t, x.want)
	}
}

// P8.3: there may be more variables than a source has.
func TestManyVariables(t *testing.T) {
	for _, count := range []int{199, 200, 201, 256, 1000} {
		var given, want []api.Term
		for k := range count {
			given = append(given, f("q", v(top-int64(k)*3)))
			want = append(want, f("q", v(int64(k))))
		}
		checkMade(t, rule(a("p"), halved(given)), api.Clause{Head: a("p"), Body: want, Vars: count})
		var rows, back []api.Term
		for k := 0; k < 240; k += 15 {
			row, turned := f("row"), f("row")
			for n := range 15 {
				row.Args = append(row.Args, v(int64(1000-k-n)))
				turned.Args = append(turned.Args, v(int64(k+n)))
			}
			rows, back = append(rows, row), append(back, turned)
		}
		checkMade(t, f("p", rows...), api.Clause{Head: f("p", back...), Vars: 240})
	}
}

// P8.3
func TestTerm(t *testing.T) {
	for k, x := range []struct {
		c    api.Clause
		want api.Term
	}{
		{api.Clause{Head: a("p")}, a("p")},
		{api.Clause{Head: a("p"), Body: []api.Term{}}, a("p")},
		{api.Clause{Head: f("p", v(0), i(1)), Vars: 1}, f("p", v(0), i(1))},
		{api.Clause{Head: a("p"), Body: []api.Term{a("q")}}, rule(a("p"), a("q"))},
		{api.Clause{Head: f("p", v(0)), Body: []api.Term{f("q", v(0), v(1))}, Vars: 2}, rule(f("p", v(0)), f("q", v(0), v(1)))},
		{api.Clause{Head: a("p"), Body: []api.Term{a("q"), a("!")}}, rule(a("p"), f(",", a("q"), a("!")))},
		{api.Clause{Head: a("p"), Body: []api.Term{a("q"), a("!"), f("r", i(1))}}, rule(a("p"), f(",", a("q"), f(",", a("!"), f("r", i(1)))))},
		{api.Clause{Head: a("p"), Body: []api.Term{a("q"), a("q"), a("q"), a("q")}}, rule(a("p"), f(",", a("q"), f(",", a("q"), f(",", a("q"), a("q")))))},
		// Whatever it is that is no clause.
		{api.Clause{}, api.Term{}},
		{api.Clause{Vars: -7}, api.Term{}},
		{api.Clause{Head: v(3), Vars: 1}, v(3)},
		{api.Clause{Head: i(3), Body: []api.Term{v(-1)}}, rule(i(3), v(-1))},
		{api.Clause{Head: a("true"), Body: []api.Term{{}, {}}}, rule(a("true"), f(",", api.Term{}, api.Term{}))},
		{api.Clause{Head: rule(a("a"), a("b")), Body: []api.Term{f(",", a("c"), a("d")), rule(a("e"), a("f"))}}, rule(rule(a("a"), a("b")), f(",", f(",", a("c"), a("d")), rule(a("e"), a("f"))))},
		{api.Clause{Head: f("f"), Body: []api.Term{f("\xff", v(-1))}, Vars: 9}, rule(f("f"), f("\xff", v(-1)))},
	} {
		if got := Term(x.c); !term.Same(got, x.want) {
			t.Errorf("%d: got %s, want %s", k, picture(got), picture(x.want))
		}
	}
}

// P8.3: as many goals as one likes, as deep as one likes.
func TestTermOfManyGoals(t *testing.T) {
	for _, count := range []int{58, 59, 60, 61, 1000, 100000} {
		l := slices.Repeat([]api.Term{a("g")}, count)
		got := Term(api.Clause{Head: a("p"), Body: l})
		if !term.Same(got, rule(a("p"), and(l...))) || term.Deep(got) != count+1 {
			t.Errorf("%d goals: got %d deep", count, term.Deep(got))
		}
	}
	deep := under(100000, v(0))
	if got := Term(api.Clause{Head: deep, Body: []api.Term{deep}}); !term.Same(got, rule(deep, deep)) {
		t.Errorf("got %d deep", term.Deep(got))
	}
}

// P8.5: goals that are nested in halves may be so many that the term of their clause is too deep to be.
func TestTermsThatAreTooDeepAgain(t *testing.T) {
	for _, count := range []int{59, 60, 64, 1000} {
		l := numbered(count)
		c, e := Make(rule(a("p"), halved(l)))
		if e != api.OK || !same(c, api.Clause{Head: a("p"), Body: l}) {
			t.Fatalf("%d goals: got %d", count, e)
		}
		want := api.OK
		if count > 59 {
			want = api.ErrDeep
		}
		if _, e := Make(Term(c)); e != want {
			t.Errorf("%d goals: got %d, want %d", count, e, want)
		}
	}
}
