package build

import (
	"math/rand"
	"runtime/debug"
	"slices"
	"testing"

	"spinney/api"
	"spinney/term"
)

// dirty writes over every part of a term's lists, and over the room behind them.
func dirty(list []api.Term) {
	for _, x := range list {
		dirty(x.Args)
	}
	list = list[:cap(list)]
	for k := range list {
		list[k] = api.Term{Kind: 77, Name: "dirty", N: 77}
	}
}

// dirtyBindings writes over a list of bindings, the terms in it, and the room behind it.
func dirtyBindings(b []api.Bind) {
	for _, x := range b {
		dirty(x.To.Args)
	}
	b = b[:cap(b)]
	for k := range b {
		b[k] = to(77, api.Term{Kind: 77, Name: "dirty", N: 77})
	}
}

// calls are what comes of all three functions.
func calls(b []api.Bind, x, y, z api.Term) []api.Out {
	return []api.Out{Functor(b, firstNew, x, y, z), Arg(b, firstNew, x, y, z), Univ(b, firstNew, x, y)}
}

// R2: what was handed in stays as it was, in its lists and in the room behind them, whatever is laid into an answer; and so do
// other answers, and what is asked again is answered again.
func TestAnswersAreTheCallersOwn(t *testing.T) {
	m := maker{rand.New(rand.NewSource(122))}
	held := [3]int{}
	for range 5000 {
		room := append(m.bindings(m.chance.Intn(6), 6), to(0, a("room")), to(1, a("room")), to(2, f("room", v(3))))
		terms := []api.Term{m.term(3, 6), m.term(3, 6), m.term(3, 6)}
		switch m.chance.Intn(4) {
		case 0:
			terms[0], terms[1] = v(m.number(6)), m.list(3, 6)
		case 1:
			terms[0], terms[1] = i(1), f("f", m.term(3, 6))
		case 2:
			terms[0], terms[1], terms[2] = v(m.number(6)), m.atom(), i(int64(m.chance.Intn(17)))
		}
		b := room[:len(room)-3]
		all := func() string { return pictureBindings(room) + pictures(terms...) }
		before := all()
		one, other := calls(b, terms[0], terms[1], terms[2]), calls(b, terms[0], terms[1], terms[2])
		if after := all(); after != before {
			t.Fatalf("what was handed in is now %s, it was %s", after, before)
		}
		for k, o := range one {
			kept := pictureOut(other[k])
			if kept != pictureOut(o) {
				t.Fatalf("%d by %s: asked again it is %s, it was %s", k, before, kept, pictureOut(o))
			}
			dirtyBindings(o.B)
			if after := all(); after != before {
				t.Fatalf("%d: what was handed in is shared: it is now %s, it was %s", k, after, before)
			}
			if pictureOut(other[k]) != kept {
				t.Fatalf("%d by %s: two answers are shared", k, before)
			}
			if o.Ok {
				held[k]++
			}
		}
	}
	if slices.Min(held[:]) < 200 {
		t.Errorf("only %v hold", held)
	}
}

// R2: lists that are one in what was handed in are not one in the answer.
func TestAnswersShareNothing(t *testing.T) {
	shared := f("g", v(1), a("a"))
	b := []api.Bind{to(600, shared), to(601, f("h", shared, shared))}
	for _, o := range []api.Out{
		Univ(b, firstNew, f("f", shared, shared), v(0)),
		Univ(b, firstNew, v(0), listed(a("f"), shared, shared)),
		Arg(b, firstNew, i(1), f("f", f("f", shared, shared)), v(0)),
	} {
		if !o.Ok || len(o.B) != 3 {
			t.Fatalf("got %s", pictureOut(o))
		}
		before := pictureOut(o)
		lists := [][]api.Term{o.B[0].To.Args, o.B[1].To.Args[0].Args, o.B[1].To.Args[1].Args}
		made := o.B[2].To
		if made.Name == "." {
			lists = append(lists, made.Args[1].Args[0].Args, made.Args[1].Args[1].Args[0].Args)
		} else {
			lists = append(lists, made.Args[0].Args, made.Args[1].Args)
		}
		for k, list := range lists {
			list[0] = i(int64(k))
		}
		for k, list := range lists {
			if !term.Same(list[0], i(int64(k))) {
				t.Errorf("list %d is shared in %s", k, before)
			}
		}
		if !term.Same(shared, f("g", v(1), a("a"))) {
			t.Fatalf("what was handed in is now %s", picture(shared))
		}
	}
}

// R1: no call runs out of the stack, however deep or long the terms are.
func TestGreatTerms(t *testing.T) {
	defer debug.SetMaxStack(debug.SetMaxStack(1 << 20))
	deep := v(1)
	for range 40000 {
		deep = f("s", deep)
	}
	long, list := f("s", slices.Repeat([]api.Term{v(1)}, 40000)...), listed(slices.Repeat([]api.Term{v(1)}, 40000)...)
	b := []api.Bind{to(2, deep), to(3, long), to(4, list)}
	checkFunctor(t, b, v(2), v(8), v(9), holding(b, firstNew, to(8, a("s")), to(9, i(1))))
	checkFunctor(t, b, v(3), v(8), v(9), holding(b, firstNew, to(8, a("s")), to(9, i(40000))))
	checkFunctor(t, b, v(8), v(2), i(1), told(api.ErrType))
	checkFunctor(t, b, v(8), a("f"), v(4), told(api.ErrType))
	checkArg(t, b, i(1), v(2), v(8), holding(b, firstNew, to(8, deep.Args[0])))
	checkArg(t, b, i(40000), v(3), v(8), holding(b, firstNew, to(8, v(1))))
	checkArg(t, b, i(40001), v(3), v(8), not())
	checkArg(t, b, i(1), v(2), deep, told(api.ErrSteps))
	checkUniv(t, b, v(2), v(8), holding(b, firstNew, to(8, listed(a("s"), deep.Args[0]))))
	checkUniv(t, b, v(3), v(8), holding(b, firstNew, to(8, open(list, a("s")))))
	checkUniv(t, b, v(8), v(4), told(api.ErrArg))
	checkUniv(t, b, v(8), listed(a("f"), v(2), deep), holding(b, firstNew, to(8, f("f", v(2), deep))))
	checkUniv(t, b, v(8), v(2), told(api.ErrType))
}
