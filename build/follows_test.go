package build

import (
	"math/rand"
	"slices"
	"testing"

	"spinney/api"
	"spinney/subst"
	"spinney/term"
	"spinney/unify"
)

// round is the kind of what is walked and has no end.
const round = -77

// words does what the chapter's words say, question by question: bindings stand in a map, all terms are walked ahead of all
// questions, and pairs are made one all at once.
type words struct {
	b     []api.Bind
	bound map[int64]api.Term
}

func wordsUnder(b []api.Bind) words {
	w := words{b, map[int64]api.Term{}}
	for _, x := range b {
		w.bound[x.Var] = x.To
	}
	return w
}

func (w words) walked(x api.Term) api.Term {
	for range api.MaxWalk + 1 {
		to, is := w.bound[x.N]
		if x.Kind != api.Var || !is {
			return x
		}
		x = to
	}
	return api.Term{Kind: round}
}

// wrong is the error that a walked term is, where it must be of one of these kinds.
func wrong(x api.Term, kinds ...int) api.Errno {
	if slices.Contains(kinds, x.Kind) {
		return api.OK
	}
	switch x.Kind {
	case round:
		return api.ErrSteps
	case api.Var:
		return api.ErrInst
	}
	return api.ErrType
}

// all is what comes of pairs, every first one of which stands in xs.
func (w words) all(next int64, xs, ys []api.Term) api.Out {
	made, is, e := unify.Unify(w.b, f("all", xs...), f("all", ys...))
	if e != api.OK || !is {
		return told(e)
	}
	return holding(made, next)
}

func (w words) functor(next int64, x, name, arity api.Term) api.Out {
	x = w.walked(x)
	if e := wrong(x, api.Var, api.Atom, api.Int, api.Comp); e != api.OK {
		return told(e)
	}
	if x.Kind == api.Comp {
		return w.all(next, []api.Term{name, arity}, []api.Term{a(x.Name), i(int64(len(x.Args)))})
	}
	if x.Kind != api.Var {
		return w.all(next, []api.Term{name, arity}, []api.Term{x, i(0)})
	}
	name, arity = w.walked(name), w.walked(arity)
	if e := wrong(arity, api.Int); e != api.OK {
		return told(e)
	}
	if !slices.Contains([]int64{0, 1, 2, 3, 4, 5, 6, 7, 8, 9, 10, 11, 12, 13, 14, 15, 16}, arity.N) {
		return told(api.ErrArg)
	}
	if arity.N == 0 {
		if e := wrong(name, api.Atom, api.Int); e != api.OK {
			return told(e)
		}
		return w.all(next, []api.Term{x}, []api.Term{name})
	}
	if e := wrong(name, api.Atom); e != api.OK {
		return told(e)
	}
	return w.all(next+arity.N, []api.Term{x}, []api.Term{f(name.Name, vars(next, int(arity.N))...)})
}

func (w words) arg(next int64, n, x, arg api.Term) api.Out {
	n, x = w.walked(n), w.walked(x)
	if e := wrong(n, api.Int); e != api.OK {
		return told(e)
	}
	if e := wrong(x, api.Comp); e != api.OK {
		return told(e)
	}
	for k, found := range x.Args {
		if int64(k+1) == n.N {
			return w.all(next, []api.Term{arg}, []api.Term{found})
		}
	}
	return not()
}

func (w words) univ(next int64, x, l api.Term) api.Out {
	x = w.walked(x)
	switch e := wrong(x, api.Var, api.Atom, api.Int, api.Comp); {
	case e != api.OK:
		return told(e)
	case x.Kind == api.Comp:
		return w.all(next, []api.Term{l}, []api.Term{listed(append([]api.Term{a(x.Name)}, x.Args...)...)})
	case x.Kind != api.Var:
		return w.all(next, []api.Term{l}, []api.Term{listed(x)})
	}
	cells, e := w.cells(l, 0)
	if e != api.OK {
		return told(e)
	}
	if len(cells) == 0 {
		return told(api.ErrType)
	}
	first := w.walked(cells[0])
	if len(cells) == 1 {
		if e := wrong(first, api.Atom, api.Int); e != api.OK {
			return told(e)
		}
		return w.all(next, []api.Term{x}, []api.Term{first})
	}
	if e := wrong(first, api.Atom); e != api.OK {
		return told(e)
	}
	return w.all(next, []api.Term{x}, []api.Term{f(first.Name, cells[1:]...)})
}

// cells are the elements of a list ahead of which there were so many others.
func (w words) cells(l api.Term, ahead int) ([]api.Term, api.Errno) {
	l = w.walked(l)
	if e := wrong(l, api.Atom, api.Comp); e != api.OK {
		return nil, e
	}
	if l.Kind == api.Atom && l.Name == "[]" {
		return nil, api.OK
	}
	if l.Kind == api.Atom || l.Name != "." || len(l.Args) != 2 {
		return nil, api.ErrType
	}
	if ahead+1 > 17 {
		return nil, api.ErrArg
	}
	behind, e := w.cells(l.Args[1], ahead+1)
	return append([]api.Term{l.Args[0]}, behind...), e
}

// ends counts how calls ended: by their errors, those that hold at held and those that do not at no.
type ends map[api.Errno]int

const (
	held = -1
	no   = -2
)

func (l ends) add(o api.Out) {
	switch {
	case o.Ok:
		l[held]++
	case o.E == api.OK:
		l[no]++
	default:
		l[o.E]++
	}
}

// check holds that each of all ends was come to that often.
func (l ends) check(t *testing.T, often int, wanted ...api.Errno) {
	t.Helper()
	for _, e := range wanted {
		if l[e] < often {
			t.Errorf("the ends are %v", l)
		}
	}
	if len(l) != len(wanted) {
		t.Errorf("the ends are %v", l)
	}
}

// counts are the ends of all calls of each function.
type counts struct{ functor, arg, univ ends }

func newCounts() counts { return counts{ends{}, ends{}, ends{}} }

// checkWords holds what comes of all three functions against the chapter's words.
func (c counts) checkWords(t *testing.T, b []api.Bind, next int64, x, y, z api.Term) {
	t.Helper()
	w := wordsUnder(b)
	for _, call := range []struct {
		name      string
		got, want api.Out
		count     ends
	}{
		{"Functor", Functor(b, next, x, y, z), w.functor(next, x, y, z), c.functor},
		{"Arg", Arg(b, next, x, y, z), w.arg(next, x, y, z), c.arg},
		{"Univ", Univ(b, next, x, y), w.univ(next, x, y), c.univ},
	} {
		call.count.add(call.want)
		if !sameOut(call.got, call.want) {
			t.Fatalf("%s of%s by\n%sgot %swant %s", call.name, pictures(x, y, z), pictureBindings(b), pictureOut(call.got), pictureOut(call.want))
		}
		if call.got.Ok && !sameBindings(call.got.B[:len(b)], b) {
			t.Fatalf("%s of%s: the bindings ahead are\n%s", call.name, pictures(x, y, z), pictureBindings(call.got.B))
		}
	}
}

// check holds that each function came to each of its ends that often.
func (c counts) check(t *testing.T, often int) {
	t.Helper()
	c.functor.check(t, often, held, no, api.ErrInst, api.ErrType, api.ErrArg, api.ErrSteps)
	c.arg.check(t, often, held, no, api.ErrInst, api.ErrType, api.ErrSteps)
	c.univ.check(t, often, held, no, api.ErrInst, api.ErrType, api.ErrArg, api.ErrSteps)
}

// P12.1 to P12.3: all three of these terms, by some lists of bindings.
func TestSmallTerms(t *testing.T) {
	terms := []api.Term{v(0), v(1), v(2), i(0), i(1), i(2), i(16), i(17), i(-1), a("a"), a("f"), a("[]"), f("f", a("a")), f("f", v(0)), f("f", v(1), i(1)), f("[]", v(2)), listed(v(1)), listed(a("f")), listed(i(1)), listed(a("f"), v(0)), listed(v(2), v(1)), open(v(1), a("f")), open(v(2), v(0)), listed(letters(17)...), listed(letters(18)...), {Kind: 9}}
	lists := [][]api.Bind{nil, {to(0, v(0))}, {to(0, v(1)), to(1, v(0))}, {to(2, open(v(2), a("f")))}, {to(0, f("f", v(0))), to(1, i(1))}}
	for _, x := range []api.Term{i(0), i(1), a("f"), v(2), f("f", v(1)), a("[]"), listed(a("f"), v(2)), open(v(1), v(1))} {
		lists = append(lists, []api.Bind{to(0, x)}, []api.Bind{to(1, x), to(0, a("b")), to(0, v(1))}, []api.Bind{to(1, i(17)), to(1, x), to(2, a("[]"))})
	}
	c := newCounts()
	for _, b := range lists {
		for _, x := range terms {
			for _, y := range terms {
				for _, z := range []api.Term{v(0), v(1), v(2), i(0), i(1), i(17), a("a"), f("f", v(0))} {
					c.checkWords(t, b, firstNew, x, y, z)
				}
			}
		}
	}
	c.check(t, 200)
}

// maker draws terms and bindings.
type maker struct{ chance *rand.Rand }

// number is one of so many Vars' numbers, some of them great or below 0.
func (m maker) number(vars int) int64 {
	n := m.chance.Intn(vars)
	switch n % 5 {
	case 3:
		return top - int64(n)
	case 4:
		return -int64(n)
	}
	return int64(n)
}

func (m maker) atom() api.Term { return a([]string{"f", "f", "g", "[]", ".", ""}[m.chance.Intn(6)]) }

// term is one of at most that depth, with some of so many Vars.
func (m maker) term(depth, vars int) api.Term {
	switch kind := m.chance.Intn(10); {
	case kind < 4:
		return v(m.number(vars))
	case kind == 4:
		return i(int64(m.chance.Intn(20) - 1))
	case kind == 5:
		return i(int64(m.chance.Intn(3)))
	case kind == 6 || depth < 2:
		return m.atom()
	case kind == 7:
		return m.list(depth, vars)
	}
	x := f(m.atom().Name)
	for range 1 + m.chance.Intn(4) {
		x.Args = append(x.Args, m.term(depth-1, vars))
	}
	return x
}

// list is one that mostly has an end, seldom of very many elements.
func (m maker) list(depth, vars int) api.Term {
	count := m.chance.Intn(4)
	if m.chance.Intn(4) == 0 {
		count = m.chance.Intn(25)
	}
	end := a("[]")
	if m.chance.Intn(3) == 0 {
		end = m.term(1, vars)
	}
	elements := []api.Term{m.atom()}
	for range count {
		elements = append(elements, m.term(depth-1, vars))
	}
	if m.chance.Intn(4) == 0 {
		elements = elements[1:]
	}
	return open(end, elements...)
}

// bindings are so many, of some of so many Vars, some Vars again.
func (m maker) bindings(count, vars int) []api.Bind {
	var out []api.Bind
	for range count {
		out = append(out, to(m.number(vars), m.term(1+m.chance.Intn(3), vars)))
	}
	return out
}

// P12.1 to P12.3: and many greater ones.
func TestManyTerms(t *testing.T) {
	m := maker{rand.New(rand.NewSource(12))}
	c := newCounts()
	for range 15000 {
		vars := 1 + m.chance.Intn(9)
		b := m.bindings(m.chance.Intn(1+2*vars), vars)
		c.checkWords(t, b, m.number(100), m.term(3, vars), m.term(3, vars), m.term(3, vars))
		c.checkWords(t, b, m.number(100), m.term(1, vars), m.list(2, vars), m.term(1, vars))
		c.checkWords(t, b, m.number(100), v(m.number(3*vars)), m.atom(), i(int64(m.chance.Intn(24)-4)))
		c.checkWords(t, b, m.number(100), i(int64(m.chance.Intn(4))), m.term(3, vars), m.term(2, vars))
	}
	c.check(t, 200)
}

// P12.4: what Univ takes apart it puts together as it was, whatever the bindings are, where it may have that many Args.
func TestUnivPutsTogether(t *testing.T) {
	m := maker{rand.New(rand.NewSource(121))}
	terms := append(comps(), leaves()...)
	for range 5000 {
		terms = append(terms, m.term(4, 6))
	}
	const l, made = 700, 701
	held := 0
	for _, x := range terms {
		b := m.bindings(m.chance.Intn(6), 6)
		walked, e := subst.Walk(b, x)
		apart := Univ(b, firstNew, x, v(l))
		if !apart.Ok {
			// Of a Var both sides are: there is nothing to be taken apart.
			if e == api.OK && walked.Kind != api.Var {
				t.Errorf("of%s: got %s", pictures(x), pictureOut(apart))
			}
			continue
		}
		if count := len(walked.Args); walked.Kind == api.Comp && (count < 1 || count > 16) {
			continue
		}
		held++
		checkOut(t, Univ(apart.B, firstNew, v(made), v(l)), holding(apart.B, firstNew, to(made, walked)), x)
		checkOut(t, Univ(apart.B, firstNew, x, v(l)), unified(apart.B, v(l), v(l)), x)
	}
	if held < 1000 {
		t.Errorf("only %d were put together", held)
	}
}

// unified is what comes of one pair.
func unified(b []api.Bind, x, y api.Term) api.Out {
	return wordsUnder(b).all(firstNew, []api.Term{x}, []api.Term{y})
}

// P12.4: Arg of what Functor makes is a new Var, at each place another one; and Functor tells of it what it was made of.
func TestArgOfFunctor(t *testing.T) {
	for count := int64(1); count <= 16; count++ {
		for _, next := range []int64{firstNew, 1 << 32, low, top - 3} {
			made := Functor(nil, next, v(0), a("f"), i(count))
			if !made.Ok || made.Next != next+count {
				t.Fatalf("got %s", pictureOut(made))
			}
			for n := range count {
				found := Arg(made.B, made.Next, i(n+1), v(0), v(1))
				// Of two Vars the greater one is bound to the other.
				want := to(max(1, next+n), v(min(1, next+n)))
				checkOut(t, found, holding(made.B, made.Next, want), i(n+1))
				x, e := subst.Resolve(made.B, v(next+n))
				if e != api.OK || !term.Same(x, v(next+n)) {
					t.Errorf("the Var %d is bound: %s, %d", next+n, picture(x), e)
				}
				checkOut(t, Arg(made.B, made.Next, i(n+1), v(0), a("a")), holding(made.B, made.Next, to(next+n, a("a"))), i(n+1))
			}
			checkOut(t, Arg(made.B, made.Next, i(0), v(0), v(1)), not())
			checkOut(t, Arg(made.B, made.Next, i(count+1), v(0), v(1)), not())
			checkOut(t, Functor(made.B, made.Next, v(0), v(1), v(2)), holding(made.B, made.Next, to(1, a("f")), to(2, i(count))))
		}
	}
}
