package unify

import (
	"math/rand"
	"slices"
	"testing"

	"spinney/api"
	"spinney/subst"
	"spinney/term"
)

// words does what the chapter's words say, pair by pair: it calls itself, bindings stand in a map, and steps are counted upward.
type words struct {
	bound map[int64]api.Term
	made  []api.Bind
	steps int
}

func wordsUnder(b []api.Bind) *words {
	w := &words{bound: map[int64]api.Term{}}
	for _, x := range b {
		w.bound[x.Var] = x.To
	}
	return w
}

// met is what a term is walked to. It stops where there are too many steps.
func (w *words) met(x api.Term) api.Term {
	w.steps++
	for next, is := w.bound[x.N]; is && x.Kind == api.Var && w.steps <= api.MaxWalk; next, is = w.bound[x.N] {
		w.steps++
		x = next
	}
	return x
}

func (w *words) bind(x, y api.Term) {
	w.bound[x.N] = y
	w.made = append(w.made, to(x.N, y))
}

// unify tells whether two terms can be one, and whether there were too many steps ahead of that.
func (w *words) unify(x, y api.Term) (bool, api.Errno) {
	x, y = w.met(x), w.met(y)
	if w.steps > api.MaxWalk {
		return false, api.ErrSteps
	}
	if x.Kind == api.Var || y.Kind == api.Var {
		if x.Kind != api.Var || y.Kind == api.Var && y.N > x.N {
			x, y = y, x
		}
		if y.Kind != api.Var || y.N != x.N {
			w.bind(x, y)
		}
		return true, api.OK
	}
	if x.Kind != y.Kind || x.Name != y.Name || x.N != y.N || len(x.Args) != len(y.Args) {
		return false, api.OK
	}
	for k := range x.Args {
		if is, e := w.unify(x.Args[k], y.Args[k]); !is {
			return false, e
		}
	}
	return true, api.OK
}

// compare is for terms that may be.
func (w *words) compare(x, y api.Term) (int, api.Errno) {
	x, y = w.met(x), w.met(y)
	if w.steps > api.MaxWalk {
		return 0, api.ErrSteps
	}
	if x.Kind != api.Comp || y.Kind != api.Comp || len(x.Args) != len(y.Args) || x.Name != y.Name {
		return term.Compare(x, y), api.OK
	}
	for k := range x.Args {
		if c, e := w.compare(x.Args[k], y.Args[k]); c != 0 || e != api.OK {
			return c, e
		}
	}
	return 0, api.OK
}

// The ends that checkWords answers, beside the errors: two terms were made one by new bindings, were the same, or can't be one.
const (
	made    = -1
	already = -2
	clashed = -3
)

// checkWords holds Unify and Compare of two terms against the chapter's words, and P10.3; it answers how Unify ended.
func checkWords(t *testing.T, b []api.Bind, x, y api.Term) api.Errno {
	t.Helper()
	w := wordsUnder(b)
	wantIs, wantE := w.unify(x, y)
	var want []api.Bind
	if wantIs {
		want = slices.Concat(b, w.made)
	}
	for _, turned := range []bool{false, true} {
		one, other := x, y
		if turned {
			one, other = y, x
		}
		got, is, e := Unify(b, one, other)
		if is != wantIs || e != wantE || !sameBindings(got, want) {
			t.Fatalf("Unify of %s and %s by\n%sgot %t, %d and\n%swant %t, %d and\n%s", picture(one), picture(other), pictureBindings(b), is, e, pictureBindings(got), wantIs, wantE, pictureBindings(want))
		}
	}
	checkComparison(t, b, x, y, wantE == api.OK && wantIs && len(w.made) == 0)
	switch {
	case wantE != api.OK:
		return wantE
	case !wantIs:
		return clashed
	}
	checkMadeOne(t, want, x, y)
	if len(w.made) == 0 {
		return already
	}
	return made
}

// checkComparison holds Compare against the chapter's words, and that it is 0 of just what is unified by no bindings; where
// both terms can be resolved it is the standard order of what they are resolved to.
func checkComparison(t *testing.T, b []api.Bind, x, y api.Term, same bool) {
	t.Helper()
	want, wantE := wordsUnder(b).compare(x, y)
	if got, e := Compare(b, x, y); got != want || e != wantE {
		t.Fatalf("Compare of %s and %s by\n%sgot %d, %d, want %d, %d", picture(x), picture(y), pictureBindings(b), got, e, want, wantE)
	}
	if got, e := Compare(b, y, x); got != -want || e != wantE {
		t.Fatalf("Compare of %s and %s by\n%sgot %d, %d, want %d, %d", picture(y), picture(x), pictureBindings(b), got, e, -want, wantE)
	}
	if (want == 0 && wantE == api.OK) != same {
		t.Fatalf("%s and %s by\n%s: Compare is %d, unified by no bindings: %t", picture(x), picture(y), pictureBindings(b), want, same)
	}
	one, e1 := subst.Resolve(b, x)
	other, e2 := subst.Resolve(b, y)
	if e1 == api.OK && e2 == api.OK && wantE == api.OK && term.Compare(one, other) != want {
		t.Fatalf("Compare of %s and %s by\n%sgot %d, not that of %s and %s", picture(x), picture(y), pictureBindings(b), want, picture(one), picture(other))
	}
}

// checkMadeOne holds of two terms that were made one by these bindings that they are resolved as the same, and are unified by no
// more bindings.
func checkMadeOne(t *testing.T, b []api.Bind, x, y api.Term) {
	t.Helper()
	one, e1 := subst.Resolve(b, x)
	other, e2 := subst.Resolve(b, y)
	if e1 == api.OK && e2 == api.OK && !term.Same(one, other) {
		t.Fatalf("%s and %s are resolved as %s and %s by\n%s", picture(x), picture(y), picture(one), picture(other), pictureBindings(b))
	}
	// Where terms stand in themselves, or are long, there may be too many steps now.
	if got, is, e := Unify(b, x, y); e != api.ErrSteps && (!is || !sameBindings(got, b)) {
		t.Fatalf("Unify of %s and %s by\n%sgot %t, and\n%s", picture(x), picture(y), pictureBindings(b), is, pictureBindings(got))
	}
	if c, e := Compare(b, x, y); e != api.ErrSteps && c != 0 {
		t.Fatalf("Compare of %s and %s by\n%sgot %d", picture(x), picture(y), pictureBindings(b), c)
	}
	if e1 == api.OK && e2 == api.OK {
		if got, is, e := Unify(nil, one, other); e != api.ErrSteps && (!is || len(got) != 0) {
			t.Fatalf("Unify of %s and %s: got %t, and\n%s", picture(one), picture(other), is, pictureBindings(got))
		}
	}
}

// P10.1 to P10.3: all pairs of small terms of these leaves, by some lists of bindings.
func TestSmallTerms(t *testing.T) {
	leaves := []api.Term{v(0), v(1), v(2), a("a")}
	terms := slices.Clone(leaves)
	for _, x := range leaves {
		terms = append(terms, f("f", x), f("g", f("f", x), v(1)))
		for _, y := range leaves {
			terms = append(terms, f("f", x, y))
		}
	}
	lists := [][]api.Bind{nil, {to(0, v(0))}, {to(0, v(1)), to(1, v(0))}, {to(1, v(0)), to(0, a("a")), to(1, i(1))}, {to(0, f("f", v(1))), to(1, f("f", v(0)))}}
	for n := range int64(2) {
		for _, x := range []api.Term{a("a"), v(2), f("f", v(n)), f("f", v(2), v(1-n)), f("g", f("f", v(1-n)), v(2))} {
			lists = append(lists, []api.Bind{to(n, x)}, []api.Bind{to(n, a("b")), to(2, v(n)), to(n, x)})
		}
	}
	ends := map[api.Errno]int{}
	for _, b := range lists {
		for _, x := range terms {
			for _, y := range terms {
				ends[checkWords(t, b, x, y)]++
			}
		}
	}
	checkEnds(t, ends, 500)
}

// checkEnds holds that Unify came to each of the four ends that often.
func checkEnds(t *testing.T, ends map[api.Errno]int, often int) {
	t.Helper()
	if ends[made] < often || ends[already] < often || ends[clashed] < often || ends[api.ErrSteps] < often || len(ends) != 4 {
		t.Errorf("Unify came to the ends %v", ends)
	}
}

// maker draws terms and bindings.
type maker struct{ chance *rand.Rand }

// number is one of so many Vars' numbers, some of them great or below 0.
func (m maker) number(vars int) int64 {
	n := m.chance.Intn(vars)
	switch n % 10 {
	case 7:
		return top - int64(n)
	case 8:
		return low + int64(n)
	case 9:
		return -int64(n)
	}
	return int64(n)
}

// term is one of at most that depth, with some of so many Vars.
func (m maker) term(depth, vars int) api.Term {
	switch kind := m.chance.Intn(8); {
	case kind < 3:
		return v(m.number(vars))
	case kind == 3:
		return i(int64(m.chance.Intn(3) - 1))
	case kind == 4 || depth < 2:
		return a([]string{"a", "b", "[]", ""}[m.chance.Intn(4)])
	}
	x := f([]string{"f", "g", "."}[m.chance.Intn(3)])
	for range 1 + m.chance.Intn(4) {
		x.Args = append(x.Args, m.term(depth-1, vars))
	}
	return x
}

// like is a term like another one, but that some parts of it are others: mostly Vars, so that both can often be one.
func (m maker) like(x api.Term, vars int) api.Term {
	switch m.chance.Intn(24) {
	case 0, 1, 2:
		return v(m.number(vars))
	case 3:
		if m.chance.Intn(3) == 0 {
			return m.term(2, vars)
		}
	}
	args := x.Args
	x.Args = nil
	for _, arg := range args {
		x.Args = append(x.Args, m.like(arg, vars))
	}
	return x
}

// bindings are so many, of some of so many Vars, some Vars again.
func (m maker) bindings(count, vars int) []api.Bind {
	var out []api.Bind
	for range count {
		out = append(out, to(m.number(vars), m.term(1+m.chance.Intn(4), vars)))
	}
	return out
}

// P10.1 to P10.3: and many greater ones.
func TestManyTerms(t *testing.T) {
	m := maker{rand.New(rand.NewSource(10))}
	ends := map[api.Errno]int{}
	for range 12000 {
		vars := 2 + m.chance.Intn(40)
		b := m.bindings(m.chance.Intn(1+vars), vars)
		x := f("f", m.term(1+m.chance.Intn(6), vars), m.term(3, vars))
		y := f("f", m.term(1+m.chance.Intn(4), vars), m.term(3, vars))
		if m.chance.Intn(3) > 0 {
			y = m.like(x, vars)
		}
		ends[checkWords(t, b, x, y)]++
	}
	checkEnds(t, ends, 250)
}

// P10.1 to P10.3: and such that come near to the end of the steps, with a chain of bindings, wide and deep ones, and Vars.
func TestManyTermsNearTheEnd(t *testing.T) {
	m := maker{rand.New(rand.NewSource(102))}
	ends := map[api.Errno]int{}
	for range 500 {
		// The Comps are 2 steps, their other Args, but for what is wide, 2 * deepest + length + 8.
		length, deepest := 1+m.chance.Intn(900), 1+m.chance.Intn(200)
		count := (2000-2-2*deepest-length-8)/2 - 3 + m.chance.Intn(6)
		b := chain(0, length, a("a"))
		pairs := []pair{{wide(count, a("a")), wide(count, a("a"))}, {v(0), a("a")}, {under(deepest, v(9000)), under(deepest, v(9001))}}
		if m.chance.Intn(2) == 0 {
			pairs = append(pairs, pair{v(9002), f("f", v(9003))})
		} else {
			pairs = append(pairs, pair{a("a"), a("a")})
		}
		switch m.chance.Intn(4) {
		case 0:
			pairs = append(pairs, pair{i(1), i(2)})
		case 1:
			pairs[2].y = pairs[2].x
		}
		m.chance.Shuffle(len(pairs), func(i, j int) { pairs[i], pairs[j] = pairs[j], pairs[i] })
		x, y := f("f"), f("f")
		for _, p := range pairs {
			if m.chance.Intn(2) == 0 {
				p.x, p.y = p.y, p.x
			}
			x.Args, y.Args = append(x.Args, p.x), append(y.Args, p.y)
		}
		ends[checkWords(t, b, x, y)]++
	}
	checkEnds(t, ends, 30)
}

// P10.3: Compare goes on from two to three, also through bindings.
func TestCompareGoesOn(t *testing.T) {
	m := maker{rand.New(rand.NewSource(103))}
	held := 0
	for range 20000 {
		b := m.bindings(m.chance.Intn(4), 6)
		x := m.term(3, 6)
		y := m.like(x, 6)
		z := m.like(y, 6)
		one, e1 := Compare(b, x, y)
		two, e2 := Compare(b, y, z)
		both, e3 := Compare(b, x, z)
		if e1 != api.OK || e2 != api.OK || e3 != api.OK || one > 0 || two > 0 {
			continue
		}
		held++
		if both != min(one, two) {
			t.Fatalf("%s, %s and %s by\n%s: got %d, %d and %d", picture(x), picture(y), picture(z), pictureBindings(b), one, two, both)
		}
	}
	if held < 4000 {
		t.Errorf("only %d were held", held)
	}
}
