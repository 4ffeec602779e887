package unify

import (
	"math/rand"
	"testing"

	"spinney/api"
	"spinney/term"
)

// dirty writes over every part of a term's lists, and over the room behind them.
func dirty(list []api.Term) {
	for _, x := range list {
		dirty(x.Args)
	}
	list = list[:cap(list)]
	for k := range list {
		list[k] = api.Term{Kind: 77, Name: "dirty", N: 77}
	}
}

// dirtyBindings writes over a list of bindings, the terms in it, and the room behind it.
func dirtyBindings(b []api.Bind) {
	for _, x := range b {
		dirty(x.To.Args)
	}
	b = b[:cap(b)]
	for k := range b {
		b[k] = to(77, api.Term{Kind: 77, Name: "dirty", N: 77})
	}
}

// P10.1, R2: what was handed in stays as it was, in its lists and in the room behind them, whatever is laid into an answer; and
// so do other answers.
func TestAnswersAreTheCallersOwn(t *testing.T) {
	m := maker{rand.New(rand.NewSource(104))}
	held := 0
	for range 5000 {
		room := append(m.bindings(m.chance.Intn(6), 8), to(0, a("room")), to(1, a("room")), to(2, f("room", v(3))))
		xs := []api.Term{m.term(4, 8), m.term(4, 8), f("f", v(0), v(1)), f("room", v(0))}
		ys := []api.Term{m.like(xs[0], 8), m.like(xs[1], 8), f("f", v(2), a("a")), f("room", v(1))}
		b, x, y := room[:len(room)-3], f("f", xs[:2]...), f("f", ys[:2]...)
		all := func() string {
			return pictureBindings(room) + picture(f("x", xs...)) + picture(f("y", ys...))
		}
		before := all()
		one, is, _ := Unify(b, x, y)
		other, _, _ := Unify(b, x, y)
		Compare(b, x, y)
		if after := all(); after != before {
			t.Fatalf("what was handed in is now %s, it was %s", after, before)
		}
		kept := pictureBindings(other)
		dirtyBindings(one)
		if after := all(); after != before {
			t.Fatalf("what was handed in is shared: it is now %s, it was %s", after, before)
		}
		if pictureBindings(other) != kept {
			t.Fatalf("two answers are shared: %s", before)
		}
		if is && len(other) > len(b) {
			held++
		}
	}
	if held < 500 {
		t.Errorf("only %d had new bindings", held)
	}
}

// P10.1, R2: lists that are one in what was handed in are not one in the answer, be it in what was made or in what was there;
// nor is the room behind a list that is empty.
func TestAnswersShareNothing(t *testing.T) {
	args := []api.Term{v(1), a("a")}
	shared, empty := f("g", args...), f("e", make([]api.Term, 0, 3)...)
	b := []api.Bind{to(0, shared), to(2, f("h", shared, shared)), to(3, empty)}
	got, is, e := Unify(b, f("f", v(4), v(5), v(6), v(7), v(8)), f("f", v(0), shared, f("h", shared, shared), shared, v(3)))
	want := []api.Bind{to(0, shared), to(2, f("h", shared, shared)), to(3, empty), to(4, shared), to(5, shared), to(6, f("h", shared, shared)), to(7, shared), to(8, empty)}
	if !is || e != api.OK || !sameBindings(got, want) {
		t.Fatalf("got %t, %d and\n%s", is, e, pictureBindings(got))
	}
	lists := [][]api.Term{got[0].To.Args, got[1].To.Args, got[1].To.Args[0].Args, got[1].To.Args[1].Args, got[3].To.Args, got[4].To.Args, got[5].To.Args, got[5].To.Args[0].Args, got[5].To.Args[1].Args, got[6].To.Args}
	for k, list := range lists {
		list[0] = i(int64(k))
	}
	for k, list := range lists {
		if !term.Same(list[0], i(int64(k))) {
			t.Errorf("list %d is shared: %s", k, picture(list[0]))
		}
	}
	for _, k := range []int{2, 7} {
		got[k].To.Args = append(got[k].To.Args, a("z"))
	}
	if room := empty.Args[:1][0]; !term.Same(room, none) {
		t.Errorf("the room behind an empty list is now %s", picture(room))
	}
	if !term.Same(shared, f("g", v(1), a("a"))) {
		t.Errorf("the list is now %s", picture(shared))
	}
}

// P10.1, R2: the room behind the bindings stays, also where many are added, or none, and so do the bindings where two can't be one.
func TestRoomBehindBindings(t *testing.T) {
	for _, count := range []int{0, 1, 2, 10, 100} {
		x, y := f("f"), f("f")
		for n := range int64(count) {
			x.Args, y.Args = append(x.Args, v(n)), append(y.Args, i(n))
		}
		for _, there := range []int{0, 1, 5} {
			room := make([]api.Bind, 300)
			for k := range room {
				room[k] = to(int64(1000+k), a("there"))
			}
			before := pictureBindings(room)
			first, is, e := Unify(room[:there], x, y)
			if !is || e != api.OK || len(first) != there+count {
				t.Errorf("got %t, %d and %d bindings", is, e, len(first))
			}
			// Two calls go on from one list: neither sees what the other one adds.
			second, is, e := Unify(first, v(500), a("second"))
			third, isToo, eToo := Unify(first, v(500), a("third"))
			if !is || !isToo || e != api.OK || eToo != api.OK || second[there+count].To.Name != "second" || third[there+count].To.Name != "third" {
				t.Errorf("got\n%sand\n%s", pictureBindings(second), pictureBindings(third))
			}
			checkClash(t, room[:there], f("h", x, a("a")), f("h", y, a("b")))
			checkLong(t, room[:there], f("h", x, wide(1000, a("a"))), f("h", y, wide(1000, a("a"))))
			if after := pictureBindings(room); after != before {
				t.Errorf("the room behind %d bindings is now\n%s", there, after)
			}
		}
	}
}
