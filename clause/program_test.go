package clause

import (
	"math"
	"slices"
	"strings"
	"testing"

	"spinney/api"
	"spinney/read"
	"spinney/term"
)

// checkProgram holds that a source has these clauses, and P8.5 of each.
func checkProgram(t *testing.T, src string, want ...api.Clause) {
	t.Helper()
	got, at, e := Program(src)
	if e != api.OK || at != 0 || !slices.EqualFunc(got, want, same) {
		t.Errorf("Program(%.80q): got %d clauses, %d at %d", src, len(got), e, at)
		for _, c := range got {
			t.Logf("a clause: %s", pictureClause(c))
		}
	}
	for _, c := range got {
		checkAgain(t, c)
	}
}

// checkNoProgram holds that a source is refused like that, and that nothing else is told.
func checkNoProgram(t *testing.T, src string, place int, want api.Errno) {
	t.Helper()
	if got, at, e := Program(src); len(got) != 0 || at != place || e != want {
		t.Errorf("Program(%.80q): got %d clauses, %d at %d, want %d at %d", src, len(got), e, at, want, place)
	}
}

// P8.4
func TestProgram(t *testing.T) {
	for _, src := range []string{"", " ", "\n", "% a.\n", "/* a :- b. */", " % nothing"} {
		checkProgram(t, src)
	}
	p := api.Clause{Head: a("p")}
	checkProgram(t, "p.", p)
	checkProgram(t, "p. p.\np.", p, p, p)
	checkProgram(t, "(p). ((p)).", p, p)
	checkProgram(t, "app([], L, L). app([H|T], L, [H|R]) :- app(T, L, R).",
		api.Clause{Head: f("app", a("[]"), v(0), v(0)), Vars: 1},
		api.Clause{Head: f("app", f(".", v(0), v(1)), v(2), f(".", v(0), v(3))), Body: []api.Term{f("app", v(1), v(2), v(3))}, Vars: 4})
	checkProgram(t, "p(X) :- q(X, Y), (!, r(Y)), s. p(_, _). q.",
		api.Clause{Head: f("p", v(0)), Body: []api.Term{f("q", v(0), v(1)), a("!"), f("r", v(1)), a("s")}, Vars: 2},
		api.Clause{Head: f("p", v(0), v(1)), Vars: 2}, api.Clause{Head: a("q")})
	checkProgram(t, "p(B, A) :- X is A + B, X > 0, !, \\=(X, Y), Y = [A|_].",
		api.Clause{Head: f("p", v(0), v(1)), Body: []api.Term{f("is", v(2), f("+", v(1), v(0))), f(">", v(2), i(0)), a("!"), f(`\=`, v(2), v(3)), f("=", v(3), f(".", v(1), v(4)))}, Vars: 5})
	checkProgram(t, ":- . ?- . \\+ . ; . (->). ','. - . -(1). + . is. a + b. {a, b}. [a]. 'X'. (a) :- ({b}), [c], ':-', \\+(d, e).",
		api.Clause{Head: a(":-")}, api.Clause{Head: a("?-")}, api.Clause{Head: a(`\+`)}, api.Clause{Head: a(";")}, api.Clause{Head: a("->")}, api.Clause{Head: a(",")}, api.Clause{Head: a("-")}, api.Clause{Head: f("-", i(1))}, api.Clause{Head: a("+")}, api.Clause{Head: a("is")}, api.Clause{Head: f("+", a("a"), a("b"))},
		api.Clause{Head: f("{}", f(",", a("a"), a("b")))}, api.Clause{Head: f(".", a("a"), a("[]"))}, api.Clause{Head: a("X")}, api.Clause{Head: a("a"), Body: []api.Term{f("{}", a("b")), f(".", a("c"), a("[]")), a(":-"), f(`\+`, a("d"), a("e"))}})
	checkProgram(t, strings.Repeat("p.\n", 1365), slices.Repeat([]api.Clause{p}, 1365)...)
}

// P8.4: clauses' variables have nothing to do with one another.
func TestEachClauseHasItsVariables(t *testing.T) {
	checkProgram(t, "p(X, Y). q(Y, X) :- r(X). s(Z).",
		api.Clause{Head: f("p", v(0), v(1)), Vars: 2}, api.Clause{Head: f("q", v(0), v(1)), Body: []api.Term{f("r", v(1))}, Vars: 2}, api.Clause{Head: f("s", v(0)), Vars: 1})
}

// P8.4: what read.Program refuses, wherever it stands, and ahead of all terms that are no clauses.
func TestProgramsThatAreNotRead(t *testing.T) {
	for src, want := range map[string]struct {
		at int
		e  api.Errno
	}{
		"p(1": {3, api.ErrSyntax}, "a b.": {2, api.ErrSyntax}, "p": {1, api.ErrSyntax}, "p. q": {4, api.ErrSyntax}, ".": {0, api.ErrSyntax}, "a. . b.": {3, api.ErrSyntax}, "p :- .": {5, api.ErrSyntax}, "f(:- a).": {2, api.ErrSyntax},
		"X = \".": {4, api.ErrToken}, "p. 'q": {3, api.ErrToken}, "/* p.": {0, api.ErrToken}, "p(9223372036854775809).": {2, api.ErrToken},
		"1. X. p(": {8, api.ErrSyntax}, "X = Y. :- a. \"": {13, api.ErrToken}, "true. p q.": {8, api.ErrSyntax},
		strings.Repeat("p.\n", 1365) + "p.": {0, api.ErrLong}, strings.Repeat("1.\n", 1366): {0, api.ErrLong}, "p. " + strings.Repeat("s(", 60) + "x" + strings.Repeat(")", 60) + ".": {3, api.ErrDeep}, "1. " + strings.Repeat("s(", 60) + "x" + strings.Repeat(")", 60) + ".": {3, api.ErrDeep},
		"p :- " + strings.Repeat("g,", 59) + "g.": {0, api.ErrDeep}, "p(" + strings.Repeat("a,", 16) + "b).": {34, api.ErrSyntax},
	} {
		checkNoProgram(t, src, want.at, want.e)
		if l, at, e := read.Program(src); len(l) != 0 || at != want.at || e != want.e {
			t.Errorf("read.Program(%.80q): got %d at %d", src, e, at)
		}
	}
}

// P8.4: the number of the first term that is no clause, not its place in the source.
func TestProgramsThatAreRefused(t *testing.T) {
	for _, bad := range []string{"X", "_", "1", "-1", "X = Y", ":- a", "?- a", "\\+ a", "a :- 1", "a :- X", "a :- b ; c", "a :- (b -> c)", "a :- \\+ b", "a :- b, 1", "a :- (b, X), c", "(a, b)", "a ; b", "a -> b", "(a :- b) :- c", "a :- (b :- c)", "a :- (:- b)", "a :- (?- b)", "(a, b) :- c", "X :- a", "1 :- a", "! :- a", "!", "true", "fail", "true :- a", "var(X) :- a", "functor(a, b, c)", "X is 1", "X == Y :- a", "a :- b, (c ; d)"} {
		checkNoProgram(t, bad+" .", 0, api.ErrClause)
		for count := range 6 {
			checkNoProgram(t, strings.Repeat("p(X) :- q(X). ", count)+bad+" . p.", count, api.ErrClause)
			checkNoProgram(t, strings.Repeat("p. ", count)+bad+" . "+bad+" . 1.", count, api.ErrClause)
		}
	}
	checkNoProgram(t, strings.Repeat("p.\n", 1364)+"1.", 1364, api.ErrClause)
}

// P8.4: it is the clauses that Make makes of what read.Program reads.
func TestProgramsMadeByTerms(t *testing.T) {
	for _, src := range []string{"p(1). p(2).", "p :- p.", "p(1) :- !. p(2).", "p(X) :- q(X), r(X, Y), Y > X.", "a. 1. b.", "len([], 0). len([_|T], N) :- len(T, M), N is M + 1.", "a :- (b, c), ((d, e), f), g."} {
		terms, _, e := read.Program(src)
		if e != api.OK {
			t.Fatalf("%q: %d", src, e)
		}
		var want []api.Clause
		for k, x := range terms {
			c, e := Make(x)
			if e != api.OK {
				checkNoProgram(t, src, k, e)
				want = nil
				break
			}
			want = append(want, c)
		}
		if want != nil {
			checkProgram(t, src, want...)
		}
	}
}

// checkFound holds that these clauses are found.
func checkFound(t *testing.T, l []api.Clause, name string, arity int, want ...int) {
	t.Helper()
	if got := Find(l, name, arity); !slices.Equal(got, want) {
		t.Errorf("Find(%q, %d): got %v, want %v", name, arity, got, want)
	}
}

// programmed are a source's clauses, P8.5 held of each.
func programmed(t *testing.T, src string) []api.Clause {
	t.Helper()
	l, _, e := Program(src)
	if e != api.OK {
		t.Fatalf("Program(%q): got %d", src, e)
	}
	for _, c := range l {
		checkAgain(t, c)
	}
	return l
}

// P8.4
func TestFind(t *testing.T) {
	l := programmed(t, "p(1). q. p(X) :- q. p. r(1, 2) :- p(3), q. p(1, 2). p(1) :- p(1), p. q(q). p :- r(1, 2).")
	checkFound(t, l, "p", 1, 0, 2, 6)
	checkFound(t, l, "p", 0, 3, 8)
	checkFound(t, l, "p", 2, 5)
	checkFound(t, l, "q", 0, 1)
	checkFound(t, l, "q", 1, 7)
	checkFound(t, l, "r", 2, 4)
	for _, name := range []string{"p", "q", "r", "", "P", "p ", "pp", "true", "!", ":-", ",", "\xff"} {
		for _, arity := range []int{3, 16, 17, -1, low, top, 1 << 32, math.MinInt32} {
			checkFound(t, l, name, arity)
		}
	}
	for _, name := range []string{"", "P", " p", "pq", "x", "1", "X", ":-"} {
		for arity := range 4 {
			checkFound(t, l, name, arity)
		}
	}
	checkFound(t, l, "r", 0)
	checkFound(t, l, "r", 1)
	checkFound(t, nil, "p", 0)
	checkFound(t, []api.Clause{}, "", 0)
	all := slices.Repeat([]api.Clause{{Head: f("p", v(0)), Body: []api.Term{a("p")}, Vars: 1}}, 300)
	want := make([]int, 300)
	for k := range want {
		want[k] = k
	}
	checkFound(t, all, "p", 1, want...)
	checkFound(t, all, "p", 0)
}

// P8.4: whatever a head's Kind is, and whatever else it may be.
func TestFindOfAnyKind(t *testing.T) {
	heads := []api.Term{
		a("p"), {Kind: api.Comp, Name: "p"}, {Kind: api.Var, Name: "p", N: 4}, {Kind: api.Int, Name: "p", N: 7}, {Name: "p"}, {Kind: 99, Name: "p", Args: []api.Term{}},
		f("p", i(1)), {Kind: api.Atom, Name: "p", Args: []api.Term{{}}}, {Kind: api.Int, Name: "p", N: 3, Args: []api.Term{v(0)}}, v(1), i(2), {}, f("true", a("x")), a("true"), f("=", v(0), v(0)), f("\xff", a("x")), f("p", slices.Repeat([]api.Term{v(0)}, 20)...),
	}
	var l []api.Clause
	for _, head := range heads {
		l = append(l, api.Clause{Head: head, Body: []api.Term{a("p"), f("p", i(1))}, Vars: -3})
	}
	checkFound(t, l, "p", 0, 0, 1, 2, 3, 4, 5)
	checkFound(t, l, "p", 1, 6, 7, 8)
	checkFound(t, l, "", 0, 9, 10, 11)
	checkFound(t, l, "true", 1, 12)
	checkFound(t, l, "true", 0, 13)
	checkFound(t, l, "=", 2, 14)
	checkFound(t, l, "\xff", 1, 15)
	checkFound(t, l, "p", 20, 16)
}

// P8.4: what Find tells is just what has the name and the number of arguments, of each procedure of a program.
func TestFindAll(t *testing.T) {
	l := programmed(t, "a. b. a(1). b(1). a(1, 2). a. b :- a. a(X) :- b(X). c(X, Y, Z). a(2).")
	found := 0
	for _, name := range []string{"a", "b", "c", "d"} {
		for arity := range 5 {
			last := -1
			for _, k := range Find(l, name, arity) {
				if k <= last || l[k].Head.Name != name || len(l[k].Head.Args) != arity {
					t.Errorf("Find(%q, %d): got %d behind %d, %s", name, arity, k, last, picture(l[k].Head))
				}
				last = k
				found++
			}
		}
	}
	if found != len(l) {
		t.Errorf("found %d of %d clauses", found, len(l))
	}
}

// dirty writes over every part of a term, in its own memory, and over what room there is behind it.
func dirty(list []api.Term) {
	for k := range list {
		dirty(list[k].Args)
		list[k] = api.Term{Kind: 77, Name: "dirty", N: 77}
	}
	rest := list[len(list):cap(list)]
	for k := range rest {
		rest[k] = api.Term{Kind: 78, Name: "room", N: 78}
	}
}

// R2: an answer is memory of its own, no two lists of one share any, and what was given stays.
func TestAnswersAreTheCallersOwn(t *testing.T) {
	room := []api.Term{v(7), f("g", v(3), v(7)), a("x"), a("y")}
	args := room[:2]
	goal := f("q", args...)
	given := rule(f("p", args...), f(",", f(",", goal, goal), and(f("r", goal), api.Term{Kind: api.Atom, Name: "z", Args: room[:0]}, f("r", goal))))
	before, ahead := picture(given), pictures(room)
	check := func(what string) {
		t.Helper()
		if picture(given) != before || pictures(room) != ahead {
			t.Errorf("%s: the argument is now %s, with %s", what, picture(given), pictures(room))
		}
	}
	l, _ := Goals(given.Args[1])
	for k := range l {
		rest := pictures(l[k+1:])
		dirty(l[k : k+1 : k+1])
		if pictures(l[k+1:]) != rest {
			t.Errorf("goal %d shares memory with one behind it", k)
		}
	}
	dirty(l)
	check("Goals")
	c, _ := Make(given)
	checkAgain(t, c)
	back := Term(c)
	made := pictureClause(c)
	dirty(back.Args)
	if pictureClause(c) != made {
		t.Errorf("Term: the clause is now %s", pictureClause(c))
	}
	body := pictures(c.Body)
	dirty(c.Head.Args)
	if pictures(c.Body) != body {
		t.Errorf("the head shares memory with the body: %s", pictures(c.Body))
	}
	dirty(c.Body)
	check("Make")
	fact, _ := Make(given.Args[0])
	checkAgain(t, fact)
	dirty(fact.Head.Args)
	check("Make of a fact")
	again := Term(api.Clause{Head: given, Body: []api.Term{goal, goal}})
	dirty(again.Args[0].Args)
	dirty(again.Args[1].Args[0].Args)
	if !term.Same(again.Args[1].Args[1], goal) {
		t.Errorf("Term: goals share memory: %s", picture(again))
	}
	alone := Term(api.Clause{Head: given})
	dirty(alone.Args)
	check("Term")
}

// R2, R5: what is asked again is answered again, and lists that are found are the caller's own.
func TestAnswersStay(t *testing.T) {
	src := "p(X, Y) :- q(Y, Z), r(Z, X). p(1, 2). q(a, b)."
	first := programmed(t, src)
	was := pictureClause(first[0]) + pictureClause(first[1])
	second := programmed(t, src)
	dirty(second[0].Body)
	dirty(second[1].Head.Args)
	if pictureClause(first[0])+pictureClause(first[1]) != was {
		t.Error("an answer changed with a later one")
	}
	third := programmed(t, src)
	if !slices.EqualFunc(first, third, same) {
		t.Error("another answer to the same")
	}
	found := Find(first, "p", 2)
	found[0], found[1] = 9, 9
	checkFound(t, first, "p", 2, 0, 1)
}
