package arith

import (
	"math/big"
	"math/rand"
	"slices"
	"testing"

	"spinney/api"
)

// task is a term that is still to be met, and in how many others it stands; or, with done, a Comp whose Args have come to values.
type task struct {
	t      api.Term
	others int
	done   bool
}

// words does what the chapter's words say: terms that wait stand in a list, the next one at its end, values without bounds in
// another one; bindings stand in a map, and each meeting of a Var reckons it anew.
func words(b []api.Bind, x api.Term) (int64, api.Errno) {
	bound := map[int64]api.Term{}
	for _, y := range b {
		bound[y.Var] = y.To
	}
	var values []*big.Int
	waiting := []task{{t: x}}
	for len(waiting) > 0 {
		now := waiting[len(waiting)-1]
		waiting = waiting[:len(waiting)-1]
		if now.done {
			ahead := len(values) - len(now.t.Args)
			n, e := number(wide(now.t.Name, values[ahead:]...))
			if e != api.OK {
				return 0, e
			}
			values = append(values[:ahead], big.NewInt(n))
			continue
		}
		if now.others >= 60 {
			return 0, api.ErrDeep
		}
		now.t = ended(bound, now.t)
		switch {
		case now.t.Kind == api.Var && bound[now.t.N].Kind != 0:
			return 0, api.ErrSteps
		case now.t.Kind == api.Var:
			return 0, api.ErrInst
		case now.t.Kind == api.Int:
			values = append(values, big.NewInt(now.t.N))
		case !isOperator(now.t):
			return 0, api.ErrType
		default:
			waiting = append(waiting, task{t: now.t, done: true})
			for _, arg := range slices.Backward(now.t.Args) {
				waiting = append(waiting, task{t: arg, others: now.others + 1})
			}
		}
	}
	return values[0].Int64(), api.OK
}

// ended is what a term is walked to when 2000 bindings have been followed, or none is left.
func ended(bound map[int64]api.Term, x api.Term) api.Term {
	for range 2000 {
		next, is := bound[x.N]
		if x.Kind != api.Var || !is {
			break
		}
		x = next
	}
	return x
}

func isOperator(x api.Term) bool {
	return x.Kind == api.Comp && (len(x.Args) == 2 && slices.Contains(namesOfTwo(), x.Name) || len(x.Args) == 1 && slices.Contains(namesOfOne(), x.Name))
}

// checkWords holds Eval of two terms, and Holds of them, against the chapter's words, and P11.3; it answers Eval's error of the
// first one.
func checkWords(t *testing.T, b []api.Bind, x, y api.Term) api.Errno {
	t.Helper()
	m, e := words(b, x)
	if got, gotE := Eval(b, x); got != m || gotE != e {
		t.Fatalf("Eval of %s by\n%sgot %d, %d, want %d, %d", picture(x), pictureBindings(b), got, gotE, m, e)
	}
	n, e2 := words(b, y)
	first := e
	if first == api.OK {
		first = e2
	}
	held := map[string]int{}
	for _, op := range comparisons() {
		want := first == api.OK && slices.Contains(holding(m, n), op)
		is, gotE := Holds(b, op, x, y)
		if is != want || gotE != first {
			t.Fatalf("%s %s %s by\n%sgot %t, %d, want %t, %d", picture(x), op, picture(y), pictureBindings(b), is, gotE, want, first)
		}
		if is {
			held[op] = 1
		}
	}
	if first == api.OK && (held["<"]+held[">="] != 1 || held["=:="]+held["=\\="] != 1 || held[">"]+held["=<"] != 1) {
		t.Fatalf("%s and %s by\n%s: there hold %v", picture(x), picture(y), pictureBindings(b), held)
	}
	return e
}

// checkEnds holds that Eval came that often to each of these ends, and to no others.
func checkEnds(t *testing.T, ends map[api.Errno]int, often int, wanted ...api.Errno) {
	t.Helper()
	for _, e := range wanted {
		if ends[e] < often {
			t.Errorf("Eval came to the ends %v", ends)
		}
	}
	if len(ends) != len(wanted) {
		t.Errorf("Eval came to the ends %v", ends)
	}
}

// P11.3: where num tells no error, the value of two Ints' sum is the sum, and so it is of sums of sums.
func TestSumIsTheSum(t *testing.T) {
	for _, m := range samples() {
		for _, n := range samples() {
			if sum := new(big.Int).Add(big.NewInt(m), big.NewInt(n)); sum.IsInt64() {
				checkEval(t, nil, f("+", i(m), i(n)), sum.Int64())
				checkEval(t, []api.Bind{to(3, f("+", i(m), i(n)))}, v(3), sum.Int64())
			} else {
				checkError(t, nil, f("+", i(m), i(n)), api.ErrEval)
			}
		}
	}
	checkEval(t, nil, f("+", f("+", i(1), i(2)), f("+", i(30), i(400))), 433)
}

// P11.3: of each pair just one holds.
func TestJustOneHolds(t *testing.T) {
	pairs := [][2]string{{"<", ">="}, {"=:=", "=\\="}, {">", "=<"}}
	for _, m := range samples() {
		for _, n := range samples() {
			for _, ops := range pairs {
				one, e1 := Holds(nil, ops[0], i(m), i(n))
				other, e2 := Holds(nil, ops[1], i(m), i(n))
				if one == other || e1 != api.OK || e2 != api.OK {
					t.Errorf("%s and %s of %d and %d: got %t, %d and %t, %d", ops[0], ops[1], m, n, one, e1, other, e2)
				}
			}
		}
	}
}

// P11.1 to P11.3: all pairs of small terms of these leaves, by some lists of bindings.
func TestSmallTerms(t *testing.T) {
	leaves := []api.Term{v(0), v(1), i(0), i(-3), i(7), a("a")}
	terms := slices.Clone(leaves)
	for _, x := range leaves {
		for _, name := range append(namesOfOne(), "f") {
			terms = append(terms, f(name, x))
		}
		for _, y := range leaves {
			for _, name := range append(namesOfTwo(), "f") {
				terms = append(terms, f(name, x, y))
			}
		}
	}
	lists := [][]api.Bind{nil, {to(0, v(0))}, {to(0, v(1)), to(1, v(0))}, {to(0, f("-", v(0)))}, {to(0, f("+", i(1), v(1))), to(1, f("+", v(0), a("a")))}}
	for _, x := range []api.Term{i(5), i(low), a("b"), f("abs", v(1)), f("//", i(9), v(1))} {
		lists = append(lists, []api.Bind{to(0, x)}, []api.Bind{to(1, i(-2)), to(0, a("b")), to(0, x)}, []api.Bind{to(1, v(0)), to(0, x)})
	}
	ends := map[api.Errno]int{}
	for _, b := range lists {
		for k, x := range terms {
			for _, y := range []api.Term{x, i(1), v(1), f("*", i(2), v(0)), terms[(k*7+3)%len(terms)], terms[(k*11+5)%len(terms)]} {
				ends[checkWords(t, b, x, y)]++
			}
		}
	}
	checkEnds(t, ends, 500, api.OK, api.ErrInst, api.ErrType, api.ErrEval, api.ErrDeep, api.ErrSteps)
}

// maker draws terms and bindings.
type maker struct{ chance *rand.Rand }

// number is one of so many Vars' numbers, some of them great or below 0.
func (m maker) number(vars int) int64 {
	n := m.chance.Intn(vars)
	switch n % 5 {
	case 3:
		return top - int64(n)
	case 4:
		return -int64(n)
	}
	return int64(n)
}

// leaf is an Int, mostly a small one, or some of so many Vars, or seldom an Atom.
func (m maker) leaf(vars int) api.Term {
	switch kind := m.chance.Intn(40); {
	case kind < 20:
		return v(m.number(vars))
	case kind == 20:
		return a([]string{"a", "+", "-", "[]", ""}[m.chance.Intn(5)])
	case kind < 24:
		all := samples()
		return i(all[m.chance.Intn(len(all))])
	}
	return i(int64(m.chance.Intn(15) - 4))
}

// term is one of at most that depth, mostly of operators.
func (m maker) term(depth, vars int) api.Term {
	if depth < 2 || m.chance.Intn(4) == 0 {
		return m.leaf(vars)
	}
	names, count := namesOfTwo(), 2
	if m.chance.Intn(3) == 0 {
		names, count = namesOfOne(), 1
	}
	if m.chance.Intn(60) == 0 {
		names, count = append(namesOfOne(), "f", "+", "mod"), 1+m.chance.Intn(3)
	}
	x := f(names[m.chance.Intn(len(names))])
	for range count {
		x.Args = append(x.Args, m.term(depth-1, vars))
	}
	return x
}

// bindings are so many, of some of so many Vars, some Vars again.
func (m maker) bindings(count, vars int) []api.Bind {
	var out []api.Bind
	for range count {
		out = append(out, to(m.number(vars), m.term(1+m.chance.Intn(3), vars)))
	}
	return out
}

// P11.1 to P11.3: and many greater ones.
func TestManyTerms(t *testing.T) {
	m := maker{rand.New(rand.NewSource(11))}
	ends := map[api.Errno]int{}
	for range 40000 {
		vars := 1 + m.chance.Intn(8)
		b := m.bindings(m.chance.Intn(2+2*vars), vars)
		ends[checkWords(t, b, m.term(1+m.chance.Intn(5), vars), m.term(3, vars))]++
	}
	checkEnds(t, ends, 1000, api.OK, api.ErrInst, api.ErrType, api.ErrEval, api.ErrDeep, api.ErrSteps)
}

// P11.1: and such that come near to the ends, of a walk's steps and of the depth.
func TestManyTermsNearTheEnds(t *testing.T) {
	m := maker{rand.New(rand.NewSource(112))}
	ends := map[api.Errno]int{}
	for range 1600 {
		// Long chains are few, since each binding that is followed is looked for among all.
		length := 1 + m.chance.Intn(50)
		if m.chance.Intn(16) == 0 {
			length = 1999 + m.chance.Intn(4)
		}
		outer := m.chance.Intn(50)
		inner := 56 - outer + m.chance.Intn(4)
		b := chain(0, length, under(inner, m.leaf(3000)))
		args := []api.Term{under(outer, v(0)), m.term(3, 2), v(int64(length - 1))}
		m.chance.Shuffle(len(args), func(i, j int) { args[i], args[j] = args[j], args[i] })
		ends[checkWords(t, b, f("+", args[0], f("-", args[1], args[2])), args[0])]++
	}
	checkEnds(t, ends, 20, api.OK, api.ErrInst, api.ErrType, api.ErrEval, api.ErrDeep, api.ErrSteps)
}

// R2: what was handed in stays as it was, in its lists and in the room behind them, and what is asked again is answered again.
func TestArgumentsStay(t *testing.T) {
	m := maker{rand.New(rand.NewSource(113))}
	for range 5000 {
		room := append(m.bindings(m.chance.Intn(8), 4), to(0, a("room")), to(1, a("room")))
		b := room[:len(room)-2]
		args := []api.Term{m.term(4, 4), m.term(4, 4), f("+", v(0), i(1)), v(0)}
		x, y := f("+", args[:2]...), f("-", args[1:2]...)
		all := func() string { return pictureBindings(room) + picture(f("", args...)) }
		before := all()
		n, e := Eval(b, x)
		is, isE := Holds(b, "<", x, y)
		if after := all(); after != before {
			t.Fatalf("what was handed in is now %s, it was %s", after, before)
		}
		again, againE := Eval(b, x)
		isAgain, isAgainE := Holds(b, "<", x, y)
		if n != again || e != againE || is != isAgain || isE != isAgainE {
			t.Fatalf("by\n%sthe answers are others", before)
		}
	}
}
