package arith

import (
	"runtime/debug"
	"slices"
	"testing"

	"spinney/api"
)

// wrong is a term of each error, and the bindings that they stand under.
func wrong() ([]api.Bind, map[api.Errno]api.Term) {
	return append(ring(2), to(5, f("-", v(5)))), map[api.Errno]api.Term{
		api.ErrInst:  v(9),
		api.ErrType:  a("a"),
		api.ErrEval:  f("//", i(1), i(0)),
		api.ErrSteps: v(0),
		api.ErrDeep:  v(5),
	}
}

// P11.1: of two Args that both come to errors the first one's is told; where just one does, that is, whatever the other one is.
func TestFirstError(t *testing.T) {
	b, terms := wrong()
	for first, x := range terms {
		for _, name := range namesOfOne() {
			checkError(t, b, f(name, x), first)
		}
		for _, name := range namesOfTwo() {
			for _, y := range terms {
				checkError(t, b, f(name, x, y), first)
				checkError(t, b, f(name, i(0), f(name, x, y)), first)
				checkError(t, b, f(name, f(name, i(0), i(2)), f("+", f("-", x), y)), first)
			}
			checkError(t, b, f(name, x, i(0)), first)
			checkError(t, b, f(name, i(0), x), first)
			checkError(t, b, f(name, i(low), x), first)
			// What the first Arg comes to is told ahead of all that the second one is.
			checkError(t, b, f(name, f("+", i(top), i(1)), x), api.ErrEval)
		}
	}
}

// P11.1: whether there is such an operator is asked ahead of its Args.
func TestOperatorAheadOfItsArgs(t *testing.T) {
	b, terms := wrong()
	for _, x := range terms {
		for _, y := range terms {
			for _, name := range []string{"f", "abs", "sign", "=:=", "**"} {
				checkError(t, b, f(name, x, y), api.ErrType)
			}
			for _, name := range append(namesOfTwo(), namesOfOne()...) {
				checkError(t, b, f(name, x, y, x), api.ErrType)
			}
		}
		for _, name := range []string{"f", "+", "*", "//", "rem", "mod", "=:=", "**"} {
			checkError(t, b, f(name, x), api.ErrType)
		}
	}
}

// P11.1: a term may stand in 59 others, and in no more, at whatever place.
func TestDepth(t *testing.T) {
	for _, wrap := range []func(api.Term) api.Term{
		func(x api.Term) api.Term { return f("-", x) },
		func(x api.Term) api.Term { return f("abs", x) },
		func(x api.Term) api.Term { return f("+", x, i(0)) },
		func(x api.Term) api.Term { return f("*", i(1), x) },
		func(x api.Term) api.Term { return f("-", i(7), x) },
	} {
		x := i(1)
		for levels := range 70 {
			if _, e := Eval(nil, x); (e == api.OK) != (levels < 60) {
				t.Errorf("%d levels: got %d", levels, e)
			}
			if levels >= 60 {
				checkError(t, nil, x, api.ErrDeep)
			}
			x = wrap(x)
		}
	}
	checkEval(t, nil, under(58, i(1)), 1)
	checkEval(t, nil, under(59, i(1)), -1)
	checkError(t, nil, under(60, i(1)), api.ErrDeep)
}

// P11.1: a term that is bound stands where its Var stands; Vars on the way to it count for nothing.
func TestDepthByBindings(t *testing.T) {
	for _, outer := range []int{0, 1, 2, 30, 58, 59} {
		for _, vars := range []int{1, 2, 10, 2000} {
			inner := 59 - outer
			checkEval(t, chain(0, vars, under(inner, i(1))), under(outer, v(0)), -1)
			checkError(t, chain(0, vars, under(inner+1, i(1))), under(outer, v(0)), api.ErrDeep)
			checkError(t, chain(0, vars, under(inner, i(1))), under(outer+1, v(0)), api.ErrDeep)
		}
	}
	// Each of them stands in one that is bound, too.
	for _, count := range []int64{58, 59, 60, 61} {
		b := []api.Bind{to(0, i(0))}
		for n := range count {
			b = append(b, to(n+1, f("+", i(1), v(n))))
		}
		if count < 60 {
			checkEval(t, b, v(count), count)
		} else {
			checkError(t, b, v(count), api.ErrDeep)
			checkEval(t, b, v(59), 59)
		}
	}
}

// P11.1: that it is too deep is told ahead of what a term is, and of its being walked, and no term that is too deep is met where
// an operator is none.
func TestDepthAheadOfAll(t *testing.T) {
	b, terms := wrong()
	for e, x := range terms {
		want := e
		if e == api.ErrEval {
			// Its Args are what is too deep.
			want = api.ErrDeep
		}
		checkError(t, b, under(59, x), want)
		checkError(t, b, under(60, x), api.ErrDeep)
		checkError(t, b, under(59, f("+", x, i(1))), api.ErrDeep)
		checkError(t, b, under(59, f("f", x)), api.ErrType)
		checkError(t, b, under(59, f("f", under(70, x))), api.ErrType)
		checkError(t, b, under(58, f("+", i(1), x)), want)
	}
	checkError(t, chain(0, 2001, i(1)), under(59, v(0)), api.ErrSteps)
	checkError(t, chain(0, 2001, i(1)), under(60, v(0)), api.ErrDeep)
	checkEval(t, chain(0, 2000, i(1)), under(59, v(0)), -1)
	checkError(t, b, under(59, f("//", i(1), i(0))), api.ErrDeep)
	checkError(t, b, under(58, f("//", i(1), i(0))), api.ErrEval)
}

// P11.1: from left to right, an error that stands ahead of what is too deep is told, and the other way round.
func TestDepthFromLeftToRight(t *testing.T) {
	deep := under(60, i(1))
	checkError(t, nil, f("+", a("a"), deep), api.ErrType)
	checkError(t, nil, f("+", v(0), deep), api.ErrInst)
	checkError(t, nil, f("+", f("//", i(1), i(0)), deep), api.ErrEval)
	checkError(t, nil, f("+", deep, a("a")), api.ErrDeep)
	checkError(t, nil, f("+", deep, v(0)), api.ErrDeep)
	checkError(t, nil, f("//", deep, i(0)), api.ErrDeep)
	checkError(t, nil, f("//", i(low), deep), api.ErrDeep)
	checkError(t, nil, f("f", deep), api.ErrType)
}

// P11.1: one Var at several places, where it is too deep at some of them alone.
func TestOneVarAtSeveralPlaces(t *testing.T) {
	b := []api.Bind{to(0, under(50, i(3))), to(1, v(0)), to(2, f("+", v(0), v(1)))}
	checkEval(t, b, f("+", v(0), under(8, v(0))), 6)
	checkEval(t, b, f("-", under(8, v(0)), v(0)), 0)
	checkEval(t, b, f("+", f("+", v(0), under(7, v(0))), f("*", v(2), v(1))), 18)
	checkError(t, b, f("+", v(0), under(9, v(0))), api.ErrDeep)
	checkError(t, b, f("+", under(9, v(0)), v(0)), api.ErrDeep)
	checkError(t, b, f("+", v(1), under(9, v(1))), api.ErrDeep)
	checkError(t, b, f("+", f("+", v(0), under(6, v(0))), under(9, v(0))), api.ErrDeep)
	checkEval(t, b, f("+", v(2), under(7, v(2))), 0)
	checkError(t, b, f("+", v(2), under(8, v(2))), api.ErrDeep)
	if is, e := Holds(b, "=:=", v(0), under(10, v(0))); is || e != api.ErrDeep {
		t.Errorf("got %t, %d", is, e)
	}
	if is, e := Holds(b, "=:=", v(0), under(8, v(0))); !is || e != api.OK {
		t.Errorf("got %t, %d", is, e)
	}
}

// P11.1: of each term's walk 2000 bindings may be followed, whatever others follow.
func TestEachWalkByItself(t *testing.T) {
	for _, count := range []int{1, 2, 700, 2000} {
		b := chain(0, count, i(3))
		checkEval(t, b, v(0), 3)
		checkEval(t, b, f("*", v(0), v(0)), 9)
		checkEval(t, b, f("+", f("+", v(0), v(0)), f("-", v(0))), 3)
		// Behind one walk stands a term whose own walks are as long.
		b = slices.Concat(chain(0, count, f("-", v(5000), v(7000))), chain(5000, count, i(9)), chain(7000, count, f("+", v(5000), i(1))))
		checkEval(t, b, v(0), -1)
		checkEval(t, b, f("*", v(0), v(0)), 1)
	}
	for _, count := range []int{2001, 2500} {
		for _, end := range []api.Term{i(3), v(9000), a("a"), under(60, i(1))} {
			b := chain(0, count, end)
			checkError(t, b, v(0), api.ErrSteps)
			checkError(t, b, v(int64(count-2001)), api.ErrSteps)
			checkError(t, b, f("+", i(1), v(0)), api.ErrSteps)
		}
		checkEval(t, chain(0, count, i(3)), v(int64(count-2000)), 3)
	}
	checkError(t, chain(0, 2000, v(9000)), v(0), api.ErrInst)
	checkError(t, chain(0, 2000, a("a")), v(0), api.ErrType)
}

// P11.1: bindings that go round come to an end, by their steps or by their depth.
func TestRings(t *testing.T) {
	for _, count := range []int{1, 2, 3, 1000, 2000, 2001} {
		b := append(ring(count), to(-1, v(0)))
		for _, n := range []int64{0, int64(count) - 1, -1} {
			checkError(t, b, v(n), api.ErrSteps)
			checkError(t, b, f("-", v(n)), api.ErrSteps)
			checkError(t, b, f("+", i(1), v(n)), api.ErrSteps)
			checkError(t, b, f("f", v(n)), api.ErrType)
		}
		checkEval(t, append(b, to(0, i(4))), v(-1), 4)
	}
	for _, x := range []struct {
		t api.Term
		e api.Errno
	}{
		{f("-", v(0)), api.ErrDeep}, {f("+", v(0), i(1)), api.ErrDeep}, {f("+", i(1), v(0)), api.ErrDeep}, {f("+", v(0), v(0)), api.ErrDeep}, {f("*", i(0), v(0)), api.ErrDeep}, {f("+", v(1), v(1)), api.ErrDeep},
		{f("+", v(0), v(9)), api.ErrDeep}, {f("+", v(9), v(0)), api.ErrInst}, {f("+", v(0), a("a")), api.ErrDeep}, {f("+", a("a"), v(0)), api.ErrType}, {f("f", v(0)), api.ErrType}, {f("//", f("//", i(1), i(0)), v(0)), api.ErrEval},
		{f("-", f("abs", v(1)), i(1)), api.ErrDeep}, {f("-", v(2)), api.ErrSteps}, {f("+", v(0), v(2)), api.ErrDeep}, {f("+", v(2), v(0)), api.ErrSteps},
	} {
		checkError(t, []api.Bind{to(0, x.t), to(1, v(0)), to(2, v(3)), to(3, v(2))}, v(0), x.e)
		checkError(t, []api.Bind{to(1, f("sign", v(0))), to(2, v(3)), to(3, v(2)), to(0, x.t)}, f("+", v(0), i(1)), x.e)
	}
}

// R1, P11.1: each of these Vars stands twice in what the one ahead of it is bound to, so that the whole has 2^59 parts, or more:
// it is reckoned all the same.
func TestVarsThatStandTwice(t *testing.T) {
	for _, name := range []string{"+", "-", "*"} {
		var b []api.Bind
		for n := range int64(80) {
			b = append(b, to(n, f(name, v(n+1), v(n+1))))
		}
		want := map[string]int64{"+": 1 << 59, "-": 0, "*": 1}[name]
		checkEval(t, append(b, to(59, i(1))), v(0), want)
		checkEval(t, append(b, to(59, v(100)), to(100, i(1))), v(0), want)
		checkError(t, append(b, to(60, i(1))), v(0), api.ErrDeep)
		checkError(t, append(b, to(59, a("a"))), v(0), api.ErrType)
		checkError(t, append(b, to(59, v(100))), v(0), api.ErrInst)
		checkError(t, b, v(0), api.ErrDeep)
	}
}

// R1: no call panics, however deep or wide a term is. The stack is kept small so that a moderate depth tells.
func TestVeryDeep(t *testing.T) {
	defer debug.SetMaxStack(debug.SetMaxStack(1 << 20))
	deep := under(100000, i(1))
	long := f("+", slices.Repeat([]api.Term{i(1)}, 100000)...)
	b := []api.Bind{to(0, deep), to(1, long), to(2, v(0)), to(3, f("f", deep))}
	for e, terms := range map[api.Errno][]api.Term{
		api.ErrDeep: {deep, v(0), v(2), f("+", i(1), deep), f("-", v(2))},
		api.ErrType: {long, v(1), v(3), f("f", deep), f("+", v(1), deep)},
	} {
		for _, x := range terms {
			if n, got := Eval(b, x); n != 0 || got != e {
				t.Errorf("Eval: got %d, %d, want %d", n, got, e)
			}
			if is, got := Holds(b, "<", i(1), x); is || got != e {
				t.Errorf("Holds: got %t, %d, want %d", is, got, e)
			}
		}
	}
}
