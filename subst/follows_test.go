package subst

import (
	"math/rand"
	"slices"
	"testing"

	"spinney/api"
	"spinney/term"
)

// last are bindings by their Vars, the last one of each.
func last(b []api.Bind) map[int64]api.Term {
	out := map[int64]api.Term{}
	for _, x := range b {
		out[x.Var] = x.To
	}
	return out
}

// place is a term that is still to be met, and in how many others it stands.
type place struct {
	t      api.Term
	others int
}

// wantError is the first error that is met, by the words of P9.2: places that are still to be met stand in a list, the next one
// at its end, and steps are counted upward.
func wantError(bound map[int64]api.Term, x api.Term) api.Errno {
	steps := 0
	waiting := []place{{x, 0}}
	for len(waiting) > 0 {
		now := waiting[len(waiting)-1]
		waiting = waiting[:len(waiting)-1]
		if steps++; steps > api.MaxWalk {
			return api.ErrSteps
		}
		if now.others >= api.MaxDeep {
			return api.ErrDeep
		}
		for {
			next, is := bound[now.t.N]
			if now.t.Kind != api.Var || !is {
				break
			}
			if steps++; steps > api.MaxWalk {
				return api.ErrSteps
			}
			now.t = next
		}
		for _, arg := range slices.Backward(now.t.Args) {
			waiting = append(waiting, place{arg, now.others + 1})
		}
	}
	return api.OK
}

// wantResolved is what is resolved, where there is no error: each Var's term is settled by itself, and then laid in.
func wantResolved(bound map[int64]api.Term, x api.Term) api.Term {
	if next, is := bound[x.N]; is && x.Kind == api.Var {
		return wantResolved(bound, next)
	}
	out := x
	out.Args = nil
	for _, arg := range x.Args {
		out.Args = append(out.Args, wantResolved(bound, arg))
	}
	return out
}

// checkWords holds Look, Walk, Resolve and Ground of a term against the words of the chapter, and P9.4; it answers Resolve's
// error.
func checkWords(t *testing.T, b []api.Bind, x api.Term) api.Errno {
	t.Helper()
	bound := last(b)
	got, e := Resolve(b, x)
	want := none
	wantE := wantError(bound, x)
	if wantE == api.OK {
		want = wantResolved(bound, x)
	}
	if e != wantE || !term.Same(got, want) {
		t.Fatalf("Resolve of %s by\n%sgot %d and %s, want %d and %s", picture(x), pictureBindings(b), e, picture(got), wantE, picture(want))
	}
	if is, e := Ground(b, x); e != wantE || is != (e == api.OK && len(term.Vars(want)) == 0) {
		t.Fatalf("Ground of %s by\n%sgot %t, %d", picture(x), pictureBindings(b), is, e)
	}
	checkLooks(t, b, bound, x)
	if e == api.OK {
		checkAgain(t, b, got)
	}
	return e
}

// checkLooks holds Look of each Var of a term, and Walk of it and of these.
func checkLooks(t *testing.T, b []api.Bind, bound map[int64]api.Term, x api.Term) {
	t.Helper()
	if x.Kind != api.Var {
		checkWalk(t, b, x, x)
	}
	for _, n := range term.Vars(x) {
		want, is := bound[n]
		if got, found := Look(b, n); found != is || !term.Same(got, want) {
			t.Fatalf("Look of %d by\n%sgot %s, %t", n, pictureBindings(b), picture(got), found)
		}
		// As many bindings as there are Vars are followed at most, or the walk goes round.
		x := v(n)
		for range len(bound) {
			if next, is := bound[x.N]; is && x.Kind == api.Var {
				x = next
			}
		}
		if _, is := bound[x.N]; is && x.Kind == api.Var {
			checkNoWalk(t, b, v(n))
		} else {
			checkWalk(t, b, v(n), x)
		}
	}
}

// checkAgain holds P9.4 of what was resolved: no Var of it is bound, and so it stays what it is.
func checkAgain(t *testing.T, b []api.Bind, x api.Term) {
	t.Helper()
	for _, n := range term.Vars(x) {
		if _, bound := Look(b, n); bound {
			t.Fatalf("%d is bound in %s by\n%s", n, picture(x), pictureBindings(b))
		}
	}
	for _, under := range [][]api.Bind{b, nil} {
		if again, e := Resolve(under, x); e != api.OK || !term.Same(again, x) {
			t.Fatalf("Resolve of %s by\n%sgot %d and %s", picture(x), pictureBindings(under), e, picture(again))
		}
	}
}

// P9.1, P9.2, P9.4: all small terms of these leaves, by all lists of at most two bindings, and some longer ones.
func TestSmallTerms(t *testing.T) {
	leaves := []api.Term{v(0), v(1), v(2), a("a")}
	terms := slices.Clone(leaves)
	for _, x := range leaves {
		terms = append(terms, f("f", x))
		for _, y := range leaves {
			terms = append(terms, f("f", x, y), f("g", f("f", x), y))
		}
	}
	var binds []api.Bind
	for n := range int64(2) {
		for _, x := range []api.Term{v(0), v(1), v(2), a("a"), f("f", v(0)), f("f", v(1)), f("f", v(2), v(1)), f("f", a("a"), v(0)), f("g", f("f", v(1)), v(2))} {
			binds = append(binds, to(n, x))
		}
	}
	for _, x := range terms {
		checkWords(t, nil, x)
		for _, one := range binds {
			checkWords(t, []api.Bind{one}, x)
			for _, two := range binds {
				checkWords(t, []api.Bind{one, two}, x)
			}
		}
		for k, one := range binds {
			checkWords(t, []api.Bind{one, to(2, a("b")), binds[(k+5)%len(binds)], one}, x)
			checkWords(t, []api.Bind{one, to(2, v(0)), binds[(k+7)%len(binds)], to(0, v(3))}, x)
		}
	}
}

// maker draws terms and bindings.
type maker struct{ chance *rand.Rand }

// number is one of so many Vars' numbers, some of them great or below 0.
func (m maker) number(vars int) int64 {
	n := m.chance.Intn(vars)
	switch n % 10 {
	case 7:
		return top - int64(n)
	case 8:
		return low + int64(n)
	case 9:
		return -int64(n)
	}
	return int64(n)
}

// term is one of at most that depth, with some of so many Vars.
func (m maker) term(depth, vars int) api.Term {
	switch kind := m.chance.Intn(8); {
	case kind < 3:
		return v(m.number(vars))
	case kind == 3:
		return i(int64(m.chance.Intn(9) - 4))
	case kind == 4 || depth < 2:
		return a([]string{"a", "b", "[]", ""}[m.chance.Intn(4)])
	}
	x := f([]string{"f", "g", "."}[m.chance.Intn(3)])
	for range 1 + m.chance.Intn(4) {
		x.Args = append(x.Args, m.term(depth-1, vars))
	}
	return x
}

// bindings are so many, of some of so many Vars, some Vars again.
func (m maker) bindings(count, vars int) []api.Bind {
	var out []api.Bind
	for range count {
		out = append(out, to(m.number(vars), m.term(1+m.chance.Intn(4), vars)))
	}
	return out
}

// P9.1, P9.2, P9.4: and many greater ones, of which some come to each of both errors.
func TestManyTerms(t *testing.T) {
	m := maker{rand.New(rand.NewSource(9))}
	ends := map[api.Errno]int{}
	for range 20000 {
		vars := 2 + m.chance.Intn(40)
		b := m.bindings(m.chance.Intn(1+2*vars), vars)
		ends[checkWords(t, b, f("f", m.term(1+m.chance.Intn(6), vars), m.term(3, vars)))]++
	}
	if ends[api.OK] < 5000 || ends[api.ErrSteps] < 500 || ends[api.ErrDeep] < 500 || len(ends) != 3 {
		t.Errorf("Resolve told %v", ends)
	}
}

// P9.2, P9.4: and such that come near to both ends, of the steps and of the depth.
func TestManyTermsNearTheEnds(t *testing.T) {
	m := maker{rand.New(rand.NewSource(92))}
	ends := map[api.Errno]int{}
	for range 1500 {
		// The Comp, what is wide, the Var and its chain, and 60 terms less or more.
		length := 1 + m.chance.Intn(900)
		size := 2000 - 2 - length - 60 - 5 + m.chance.Intn(12)
		deep := under(55+m.chance.Intn(8), v(int64(length-1)))
		args := []api.Term{wide(size), v(0), deep}
		m.chance.Shuffle(len(args), func(i, j int) { args[i], args[j] = args[j], args[i] })
		ends[checkWords(t, chain(length, a("a")), f("f", args...))]++
	}
	if ends[api.OK] < 100 || ends[api.ErrSteps] < 100 || ends[api.ErrDeep] < 100 || len(ends) != 3 {
		t.Errorf("Resolve told %v", ends)
	}
}

// P9.3, P9.4: Fresh is a variant, and back again the term; what it makes of a term without Vars is the term.
func TestFreshAgain(t *testing.T) {
	m := maker{rand.New(rand.NewSource(93))}
	for range 5000 {
		x := m.term(1+m.chance.Intn(6), 30)
		next := int64(m.chance.Uint64())
		got := Fresh(x, next)
		if !term.Same(got, wantFresh(x, next)) || !term.Variant(x, got) || !term.Same(Fresh(got, -next), x) {
			t.Fatalf("Fresh of %s by %d: got %s", picture(x), next, picture(got))
		}
		if len(term.Vars(x)) == 0 && !term.Same(got, x) {
			t.Fatalf("Fresh of %s by %d: got %s", picture(x), next, picture(got))
		}
	}
}

// answers are what each of the functions that answer a term answers, of some Var of the bindings and of a term.
func answers(b []api.Bind, x api.Term) []api.Term {
	var out []api.Term
	for _, n := range append(term.Vars(x), 0, 1, 2) {
		y, _ := Look(b, n)
		z, _ := Walk(b, v(n))
		w, _ := Resolve(b, v(n))
		out = append(out, y, z, w)
	}
	y, _ := Walk(b, x)
	z, _ := Resolve(b, x)
	return append(out, y, z, Fresh(x, 0), Fresh(x, 5))
}

// dirty writes over every part of a term's lists, and over the room behind them.
func dirty(list []api.Term) {
	for _, x := range list {
		dirty(x.Args)
	}
	list = list[:cap(list)]
	for k := range list {
		list[k] = api.Term{Kind: 77, Name: "dirty", N: 77}
	}
}

// R2: what was handed in stays as it was, in its lists and in the room behind them, whatever is laid into an answer; and so do
// all other answers.
func TestAnswersAreTheCallersOwn(t *testing.T) {
	m := maker{rand.New(rand.NewSource(94))}
	for range 2000 {
		room := append(m.bindings(1+m.chance.Intn(6), 4), to(0, a("room")), to(1, a("room")))
		list := []api.Term{m.term(4, 4), m.term(4, 4), f("f", v(0), v(1)), f("room", v(0))}
		b, x := room[:len(room)-2], f("f", list[:2]...)
		before := pictureBindings(room) + picture(f("f", list...))
		got := answers(b, x)
		again := pictures(answers(b, x))
		for k := range got {
			kept := pictures(got[k+1:])
			dirty(got[k].Args)
			if pictures(got[k+1:]) != kept {
				t.Fatalf("answer %d is shared with another one: %s", k, before)
			}
		}
		Ground(b, x)
		if after := pictureBindings(room) + picture(f("f", list...)); after != before {
			t.Fatalf("what was handed in is now %s, it was %s", after, before)
		}
		if pictures(answers(b, x)) != again {
			t.Fatalf("the answers are others: %s", before)
		}
	}
}

func pictures(l []api.Term) string {
	out := ""
	for _, x := range l {
		out += picture(x) + "\n"
	}
	return out
}

// R2: lists that are one in the bindings, or in the term, are not one in the answer.
func TestAnswersShareNothing(t *testing.T) {
	list := []api.Term{v(1), a("a")}
	b := []api.Bind{to(0, f("g", list...)), to(2, f("h", f("g", list...), f("g", list...)))}
	other := a("other")
	want := f("f", f("g", other, a("a")), f("g", v(1), a("a")))
	for _, x := range []api.Term{f("f", v(0), v(0)), f("f", f("g", list...), f("g", list...)), f("f", v(0), f("g", list...))} {
		got, _ := Resolve(b, x)
		got.Args[0].Args[0] = other
		if !term.Same(got, want) {
			t.Errorf("Resolve: got %s", picture(got))
		}
	}
	looked, _ := Look(b, 2)
	walked, _ := Walk(b, v(2))
	fresh := Fresh(f("h", f("g", list...), f("g", list...)), 0)
	for k, got := range []api.Term{looked, walked, fresh} {
		got.Args[0].Args[0] = other
		if !term.Same(got, f("h", want.Args...)) {
			t.Errorf("%d: got %s", k, picture(got))
		}
	}
	if !term.Same(f("g", list...), f("g", v(1), a("a"))) {
		t.Errorf("the list is now %s", picture(f("g", list...)))
	}
}
