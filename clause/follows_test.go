package clause

import (
	"math/rand"
	"slices"
	"strings"
	"testing"

	"spinney/api"
	"spinney/read"
	"spinney/term"
	"spinney/write"
)

// wantGoals are a body's goals by the chapter's words, one by one, and by another way than the package.
func wantGoals(body api.Term) ([]api.Term, api.Errno) {
	if e := term.Check(body); e != api.OK {
		return nil, e
	}
	l := unnested(body)
	if slices.ContainsFunc(l, wantNoGoal) {
		return nil, api.ErrClause
	}
	return l, api.OK
}

func unnested(body api.Term) []api.Term {
	if body.Kind == api.Comp && body.Name == "," && len(body.Args) == 2 {
		return slices.Concat(unnested(body.Args[0]), unnested(body.Args[1]))
	}
	return []api.Term{body}
}

func wantNoGoal(x api.Term) bool {
	if x.Kind != api.Atom && x.Kind != api.Comp {
		return true
	}
	has := [][]string{{}, {`\+`, ":-", "?-"}, {",", ";", "->", ":-"}}
	return len(x.Args) < len(has) && slices.Contains(has[len(x.Args)], x.Name)
}

func wantMake(x api.Term) (api.Clause, api.Errno) {
	if e := term.Check(x); e != api.OK {
		return api.Clause{}, e
	}
	head, body := x, []api.Term(nil)
	if isRule(x) {
		var e api.Errno
		if body, e = wantGoals(x.Args[1]); e != api.OK {
			return api.Clause{}, e
		}
		head = x.Args[0]
	}
	if arity, known := arities[head.Name]; wantNoGoal(head) || known && arity == len(head.Args) {
		return api.Clause{}, api.ErrClause
	}
	// The term's variables come up in the order in which its head's and its goals' do.
	order := term.Vars(x)
	out := api.Clause{Head: placed(head, order), Vars: len(order)}
	for _, goal := range body {
		out.Body = append(out.Body, placed(goal, order))
	}
	return out, api.OK
}

// placed is a term, with the place of each of its variables in that order for it.
func placed(x api.Term, order []int64) api.Term {
	if x.Kind == api.Var {
		return v(int64(slices.Index(order, x.N)))
	}
	out := x
	out.Args = nil
	for _, arg := range x.Args {
		out.Args = append(out.Args, placed(arg, order))
	}
	return out
}

// checkWords holds Goals and Make of a term against the words of the chapter, and P8.5.
func checkWords(t *testing.T, x api.Term) {
	t.Helper()
	before := term.Copy(x)
	l, e := Goals(x)
	if want, wantE := wantGoals(x); e != wantE || !slices.EqualFunc(l, want, term.Same) {
		t.Fatalf("Goals(%s): got %d and\n%swant %d and\n%s", picture(x), e, pictures(l), wantE, pictures(want))
	}
	c, e := Make(x)
	if want, wantE := wantMake(x); e != wantE || !same(c, want) {
		t.Fatalf("Make(%s): got %d and %s, want %d and %s", picture(x), e, pictureClause(c), wantE, pictureClause(want))
	}
	if e == api.OK {
		checkAgain(t, c)
	}
	if !term.Same(x, before) {
		t.Fatalf("%s is now %s", picture(before), picture(x))
	}
}

// P8.2, P8.3, P8.5: all small terms of these leaves and names.
func TestSmallTerms(t *testing.T) {
	leaves := []api.Term{v(0), v(5), i(0), a("a"), a("!"), a("fail"), a(","), a(":-"), f("p", v(5)), f("p", v(0), v(5)), f("=", v(0), v(2)), f(`\+`, a("a")), f("?-", v(0)), f(":-", a("b")), f(`\+`, a("a"), v(3)), {}}
	names := []string{",", ":-", ";", "->", "=", "p", "var", `\+`, "?-", "arg"}
	var pairs []api.Term
	for _, x := range leaves {
		checkWords(t, x)
		for _, name := range names {
			checkWords(t, f(name, x))
			for _, y := range leaves {
				checkWords(t, f(name, x, y))
				checkWords(t, f(name, x, y, x))
				pairs = append(pairs, f(name, x, y))
			}
		}
	}
	for _, x := range pairs {
		for _, y := range leaves {
			for _, name := range []string{",", ":-", "p"} {
				checkWords(t, f(name, x, y))
				checkWords(t, f(name, y, x))
				checkWords(t, f(":-", f("h", v(2)), f(name, x, y)))
				checkWords(t, f(":-", f("h", v(2)), f(name, y, x)))
			}
		}
	}
}

// maker draws terms that look like clauses, now and then with something in them that does not go.
type maker struct{ chance *rand.Rand }

func (m maker) one(of ...string) string { return of[m.chance.Intn(len(of))] }

// arg is some term of at most that depth.
func (m maker) arg(depth int) api.Term {
	switch kind := m.chance.Intn(6); {
	case kind < 2:
		return v([]int64{0, 1, 2, 3, 9, top}[m.chance.Intn(6)])
	case kind == 2:
		return i(int64(m.chance.Intn(5) - 2))
	case kind == 3 || depth < 2:
		return a(m.one("a", "b", "[]", ",", "!", "it's"))
	}
	x := f(m.one("f", "g", ".", ",", ":-", "=", `\+`))
	for range 1 + m.chance.Intn(3) {
		x.Args = append(x.Args, m.arg(depth-1))
	}
	return x
}

// goal is some goal, or of one in forty what is none.
func (m maker) goal() api.Term {
	switch m.chance.Intn(40) {
	case 0:
		return f(m.one(";", "->", ":-"), m.arg(3), m.arg(3))
	case 1:
		return []api.Term{v(4), i(4), f(`\+`, a("a")), f("?-", v(1)), f(":-", a("a")), v(-1), {}}[m.chance.Intn(7)]
	case 2, 3, 4:
		return a(m.one("!", "true", "fail", "a", ",", ":-"))
	}
	x := f(m.one("p", "q", "q", "r", "=", "is", "var", "functor", "<", ";", `\+`, "f"))
	if count := m.chance.Intn(5); count > 0 {
		for range count {
			x.Args = append(x.Args, m.arg(3))
		}
		if !wantNoGoal(x) {
			return x
		}
	}
	return a(x.Name)
}

// body is one of so many goals, nested in any way.
func (m maker) body(count int) api.Term {
	if count == 1 {
		return m.goal()
	}
	left := 1 + m.chance.Intn(count-1)
	return f(",", m.body(left), m.body(count-left))
}

func (m maker) clause() api.Term {
	if m.chance.Intn(4) == 0 {
		return m.goal()
	}
	return rule(m.goal(), m.body(1+m.chance.Intn(8)))
}

// P8.2, P8.3, P8.5: and many greater ones.
func TestManyTerms(t *testing.T) {
	m := maker{rand.New(rand.NewSource(8))}
	made := 0
	for range 30000 {
		x := m.clause()
		checkWords(t, x)
		checkWords(t, m.body(1+m.chance.Intn(20)))
		if _, e := Make(x); e == api.OK {
			made++
		}
	}
	if made < 10000 || made > 25000 {
		t.Errorf("%d of the terms are clauses", made)
	}
}

// P8.4, P8.5: programs of many clauses are those of their texts; what is made, written and read is the same clause again; and
// what Find tells is what has the name and the number of arguments.
func TestManyPrograms(t *testing.T) {
	m := maker{rand.New(rand.NewSource(84))}
	refused := 0
	for range 3000 {
		var src strings.Builder
		var terms []api.Term
		for range m.chance.Intn(6) {
			x := m.clause()
			if text, e := write.Clause(x); e == api.OK {
				src.WriteString(text)
				terms = append(terms, x)
			}
		}
		if _, _, e := read.Program(src.String()); e != api.OK {
			t.Fatalf("%q can't be read: %d", src.String(), e)
		}
		want, bad := wantClauses(terms)
		if bad >= 0 {
			refused++
			checkNoProgram(t, src.String(), bad, api.ErrClause)
			continue
		}
		checkProgram(t, src.String(), want...)
		checkEachFound(t, want)
		again := ""
		for _, c := range want {
			text, e := write.Clause(Term(c))
			if e != api.OK {
				t.Fatalf("%s can't be written: %d", pictureClause(c), e)
			}
			again += text
		}
		checkProgram(t, again, want...)
	}
	if refused < 300 || refused > 2000 {
		t.Errorf("%d of the programs are refused", refused)
	}
}

// wantClauses are the clauses of these, or which of them is none.
func wantClauses(terms []api.Term) ([]api.Clause, int) {
	var out []api.Clause
	for k, x := range terms {
		c, e := wantMake(x)
		if e != api.OK {
			return nil, k
		}
		out = append(out, c)
	}
	return out, -1
}

// checkEachFound holds that each clause is found by its head's name and number of arguments, and no other one with it.
func checkEachFound(t *testing.T, l []api.Clause) {
	t.Helper()
	for _, c := range l {
		var want []int
		for k, d := range l {
			if d.Head.Name == c.Head.Name && len(d.Head.Args) == len(c.Head.Args) {
				want = append(want, k)
			}
		}
		checkFound(t, l, c.Head.Name, len(c.Head.Args), want...)
	}
}

// P8.4, P8.5: whatever the source is.
func FuzzProgram(f *testing.F) {
	for _, src := range []string{"p(X) :- q(X, Y), !.", "p(1). p(2).", "X = Y.", ":- a.", "a :- 1.", "a :- b ; c.", "p(1", "a :- (b, c), d."} {
		f.Add(src)
	}
	f.Fuzz(func(t *testing.T, src string) {
		terms, at, e := read.Program(src)
		if e != api.OK {
			checkNoProgram(t, src, at, e)
			return
		}
		want, bad := wantClauses(terms)
		if bad >= 0 {
			checkNoProgram(t, src, bad, api.ErrClause)
			return
		}
		checkProgram(t, src, want...)
	})
}
