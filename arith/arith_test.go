package arith

import (
	"math"
	"math/big"
	"strconv"
	"testing"

	"spinney/api"
)

const (
	top = math.MaxInt64
	low = math.MinInt64
)

func v(n int64) api.Term { return api.Term{Kind: api.Var, N: n} }

func a(name string) api.Term { return api.Term{Kind: api.Atom, Name: name} }

func i(n int64) api.Term { return api.Term{Kind: api.Int, N: n} }

func f(name string, args ...api.Term) api.Term {
	return api.Term{Kind: api.Comp, Name: name, Args: args}
}

// under is t under so many Comps - of one Arg.
func under(levels int, t api.Term) api.Term {
	for range levels {
		t = f("-", t)
	}
	return t
}

func to(n int64, t api.Term) api.Bind { return api.Bind{Var: n, To: t} }

// chain binds so many Vars from first on, each one to the next, the last one to end.
func chain(first int64, count int, end api.Term) []api.Bind {
	var out []api.Bind
	for n := range int64(count) {
		out = append(out, to(first+n, v(first+n+1)))
	}
	if count > 0 {
		out[count-1].To = end
	}
	return out
}

// ring binds so many Vars from 0 on, each one to the next, the last one to 0.
func ring(count int) []api.Bind { return chain(0, count, v(0)) }

// picture tells all of a term, whatever it is.
func picture(t api.Term) string {
	out := strconv.Itoa(t.Kind) + strconv.Quote(t.Name) + strconv.FormatInt(t.N, 10) + "["
	for _, x := range t.Args {
		out += picture(x)
	}
	return out + "]"
}

func pictureBindings(b []api.Bind) string {
	out := ""
	for _, x := range b {
		out += strconv.FormatInt(x.Var, 10) + ": " + picture(x.To) + "\n"
	}
	return out
}

// checkEval holds what a term comes to, and that Holds sees the same at both sides.
func checkEval(t *testing.T, b []api.Bind, x api.Term, want int64) {
	t.Helper()
	if n, e := Eval(b, x); n != want || e != api.OK {
		t.Errorf("Eval of %s: got %d, %d, want %d", picture(x), n, e, want)
	}
	if is, e := Holds(b, "=:=", x, i(want)); !is || e != api.OK {
		t.Errorf("%s =:= %d: got %t, %d", picture(x), want, is, e)
	}
	if is, e := Holds(b, "=\\=", i(want), x); is || e != api.OK {
		t.Errorf("%d =\\= %s: got %t, %d", want, picture(x), is, e)
	}
}

// checkError holds which error a term comes to, and that Holds tells it of both sides.
func checkError(t *testing.T, b []api.Bind, x api.Term, want api.Errno) {
	t.Helper()
	if n, e := Eval(b, x); n != 0 || e != want {
		t.Errorf("Eval of %s: got %d, %d, want %d", picture(x), n, e, want)
	}
	for _, op := range comparisons() {
		if is, e := Holds(b, op, x, i(1)); is || e != want {
			t.Errorf("%s %s 1: got %t, %d, want %d", picture(x), op, is, e, want)
		}
		if is, e := Holds(b, op, i(1), x); is || e != want {
			t.Errorf("1 %s %s: got %t, %d, want %d", op, picture(x), is, e, want)
		}
	}
}

func namesOfTwo() []string { return []string{"+", "-", "*", "//", "rem", "mod"} }

func namesOfOne() []string { return []string{"-", "abs", "sign"} }

func comparisons() []string { return []string{"=:=", "=\\=", "<", "=<", ">", ">="} }

// samples are small numbers, and those around the edges where something may be over.
func samples() []int64 {
	var out []int64
	for n := int64(-9); n <= 9; n++ {
		out = append(out, n)
	}
	for _, mid := range []int64{1 << 31, 1 << 32, 3037000500, 1 << 62, top / 2, top / 3} {
		for d := int64(-1); d <= 1; d++ {
			out = append(out, mid+d, -mid+d)
		}
	}
	for d := int64(0); d <= 3; d++ {
		out = append(out, top-d, low+d)
	}
	return out
}

// wide is what the operator of that name and so many Args makes of numbers, by the words of layer 1, without bounds; nil, where it
// divides by 0, or there is no such operator.
func wide(name string, args ...*big.Int) *big.Int {
	x := args[0]
	if len(args) == 1 {
		switch name {
		case "-":
			return new(big.Int).Neg(x)
		case "abs":
			return new(big.Int).Abs(x)
		case "sign":
			return big.NewInt(int64(x.Sign()))
		}
		return nil
	}
	y := args[1]
	switch name {
	case "+":
		return new(big.Int).Add(x, y)
	case "-":
		return new(big.Int).Sub(x, y)
	case "*":
		return new(big.Int).Mul(x, y)
	}
	if y.Sign() == 0 {
		return nil
	}
	switch name {
	case "//":
		return new(big.Int).Quo(x, y)
	case "rem":
		return new(big.Int).Rem(x, y)
	case "mod":
		rest := new(big.Int).Rem(x, y)
		if rest.Sign() != 0 && rest.Sign() != y.Sign() {
			rest.Add(rest, y)
		}
		return rest
	}
	return nil
}

// number is n, or ErrEval, if there is none, or it has not 64 bits.
func number(n *big.Int) (int64, api.Errno) {
	if n == nil || !n.IsInt64() {
		return 0, api.ErrEval
	}
	return n.Int64(), api.OK
}

// P11.1
func TestExamples(t *testing.T) {
	checkEval(t, nil, f("+", i(1), f("*", i(2), i(3))), 7)
	checkError(t, nil, f("//", i(7), i(0)), api.ErrEval)
	checkError(t, nil, f("+", v(0), i(1)), api.ErrInst)
	checkError(t, nil, f("+", a("a"), v(0)), api.ErrType)
	checkEval(t, nil, f("-", i(5)), -5)
}

// P11.1
func TestOfTwo(t *testing.T) {
	for _, x := range []struct {
		name       string
		m, n, want int64
	}{
		{"+", 2, 3, 5}, {"+", 2, -3, -1}, {"+", -2, -3, -5}, {"+", 0, 0, 0}, {"+", top, 0, top}, {"+", top, low, -1}, {"+", low + 1, -1, low}, {"+", top - 1, 1, top},
		{"-", 5, 3, 2}, {"-", 3, 5, -2}, {"-", -3, -5, 2}, {"-", 0, 7, -7}, {"-", -1, low, top}, {"-", low, low, 0}, {"-", -1, top, low},
		{"*", 3, -4, -12}, {"*", -3, -4, 12}, {"*", 0, low, 0}, {"*", low, 1, low}, {"*", top, -1, -top}, {"*", -1 << 32, 1 << 31, low},
		{"//", 7, 2, 3}, {"//", -7, 2, -3}, {"//", 7, -2, -3}, {"//", -7, -2, 3}, {"//", 0, 5, 0}, {"//", low, 1, low}, {"//", top, -1, -top}, {"//", top, low, 0},
		{"rem", 7, 2, 1}, {"rem", -7, 2, -1}, {"rem", 7, -2, 1}, {"rem", -7, -2, -1}, {"rem", 0, 5, 0}, {"rem", low, -1, 0}, {"rem", low, top, -1}, {"rem", top, low, top},
		{"mod", 7, 2, 1}, {"mod", -7, 2, 1}, {"mod", 7, -2, -1}, {"mod", -7, -2, -1}, {"mod", 0, 5, 0}, {"mod", low, -1, 0}, {"mod", low, top, top - 1}, {"mod", top, low, -1},
	} {
		checkEval(t, nil, f(x.name, i(x.m), i(x.n)), x.want)
		checkEval(t, []api.Bind{to(0, i(x.m)), to(1, i(x.n))}, f(x.name, v(0), v(1)), x.want)
	}
}

// P11.1: each error of num is ErrEval.
func TestOfTwoErrors(t *testing.T) {
	for _, x := range []struct {
		name string
		m, n int64
	}{
		{"+", top, 1}, {"+", 1, top}, {"+", low, -1}, {"+", -1, low}, {"+", top, top}, {"+", low, low},
		{"-", low, 1}, {"-", 0, low}, {"-", top, -1}, {"-", -2, top},
		{"*", 1 << 32, 1 << 31}, {"*", low, -1}, {"*", -1, low}, {"*", top, 2}, {"*", low, low},
		{"//", 7, 0}, {"//", 0, 0}, {"//", low, 0}, {"//", low, -1},
		{"rem", 7, 0}, {"rem", 0, 0}, {"rem", low, 0}, {"mod", 7, 0}, {"mod", 0, 0}, {"mod", low, 0},
	} {
		checkError(t, nil, f(x.name, i(x.m), i(x.n)), api.ErrEval)
		checkError(t, []api.Bind{to(0, i(x.m)), to(1, i(x.n))}, f(x.name, v(0), v(1)), api.ErrEval)
	}
}

// P11.1
func TestOfOne(t *testing.T) {
	for _, x := range []struct {
		name    string
		m, want int64
	}{
		{"-", 5, -5}, {"-", -5, 5}, {"-", 0, 0}, {"-", top, -top}, {"-", low + 1, top},
		{"abs", 5, 5}, {"abs", -5, 5}, {"abs", 0, 0}, {"abs", top, top}, {"abs", low + 1, top},
		{"sign", 9, 1}, {"sign", -9, -1}, {"sign", 0, 0}, {"sign", top, 1}, {"sign", low, -1},
	} {
		checkEval(t, nil, f(x.name, i(x.m)), x.want)
		checkEval(t, []api.Bind{to(0, i(x.m))}, f(x.name, v(0)), x.want)
	}
	checkError(t, nil, f("-", i(low)), api.ErrEval)
	checkError(t, nil, f("abs", i(low)), api.ErrEval)
}

// P11.1: all operators of all samples.
func TestSamples(t *testing.T) {
	for _, m := range samples() {
		for _, name := range namesOfOne() {
			want, wantE := number(wide(name, big.NewInt(m)))
			if n, e := Eval(nil, f(name, i(m))); n != want || e != wantE {
				t.Errorf("%s(%d): got %d, %d, want %d, %d", name, m, n, e, want, wantE)
			}
		}
		for _, n := range samples() {
			for _, name := range namesOfTwo() {
				want, wantE := number(wide(name, big.NewInt(m), big.NewInt(n)))
				if got, e := Eval(nil, f(name, i(m), i(n))); got != want || e != wantE {
					t.Errorf("%d %s %d: got %d, %d, want %d, %d", m, name, n, got, e, want, wantE)
				}
			}
		}
	}
}

// P11.1
func TestInts(t *testing.T) {
	for _, n := range samples() {
		checkEval(t, nil, i(n), n)
		checkEval(t, []api.Bind{to(n, i(n+1))}, i(n), n)
		checkEval(t, []api.Bind{to(7, i(n))}, v(7), n)
	}
	// R1: also those that may not be.
	checkEval(t, nil, api.Term{Kind: api.Int, Name: "1", N: 2, Args: []api.Term{a("a")}}, 2)
}

// P11.1: a Var is what it is bound to, over other Vars as well; of several bindings the last one counts.
func TestVars(t *testing.T) {
	checkError(t, nil, v(0), api.ErrInst)
	checkError(t, []api.Bind{to(1, i(1))}, v(0), api.ErrInst)
	b := []api.Bind{to(0, i(5)), to(1, v(0)), to(2, v(1)), to(3, f("*", v(2), v(4))), to(4, i(1)), to(4, i(-6)), to(5, v(9)), to(6, v(5)), to(-1, v(3)), to(top, v(-1)), to(low, a("a")), to(low, v(top))}
	for n, want := range map[int64]int64{0: 5, 1: 5, 2: 5, 3: -30, 4: -6, -1: -30, top: -30, low: -30} {
		checkEval(t, b, v(n), want)
		checkEval(t, b, f("-", f("+", v(n), i(1))), -want-1)
		checkEval(t, b, f("-", v(n), v(n)), 0)
	}
	for _, n := range []int64{5, 6, 9, 10, -2, top - 1, low + 1} {
		checkError(t, b, v(n), api.ErrInst)
		checkError(t, b, f("+", i(1), v(n)), api.ErrInst)
		checkError(t, b, f("abs", v(n)), api.ErrInst)
	}
	checkEval(t, []api.Bind{to(0, v(1)), to(1, i(3)), to(0, i(4)), to(1, i(5))}, f("-", v(0), v(1)), -1)
	checkEval(t, []api.Bind{to(0, i(3)), to(0, v(1)), to(1, a("a")), to(1, i(8))}, v(0), 8)
	checkError(t, []api.Bind{to(0, i(3)), to(0, v(1))}, v(0), api.ErrInst)
	checkError(t, []api.Bind{to(0, i(3)), to(0, a("a"))}, v(0), api.ErrType)
	// R1: also those that may not be.
	checkEval(t, b, api.Term{Kind: api.Var, Name: "+", N: 1, Args: []api.Term{i(1), i(1)}}, 5)
	checkError(t, b, api.Term{Kind: api.Var, Name: "+", N: 9, Args: []api.Term{i(1), i(1)}}, api.ErrInst)
}

// P11.1: what is neither a Var, nor an Int, nor an operator's Comp has no value.
func TestOthers(t *testing.T) {
	all := []api.Term{a("a"), a("[]"), a(""), a("1"), a("_0"), f("f", i(1)), f("f", i(1), i(2)), f(".", i(1), a("[]")), f("", i(1)), f("", i(1), i(2)), {}, {Kind: 5, N: 1}, {Kind: -1, Name: "-", Args: []api.Term{i(1)}}, {N: 7}}
	for _, name := range append(namesOfTwo(), namesOfOne()...) {
		all = append(all, a(name), api.Term{Kind: api.Atom, Name: name, Args: []api.Term{i(1)}}, api.Term{Kind: api.Atom, Name: name, Args: []api.Term{i(1), i(1)}})
	}
	for _, name := range []string{"/", "**", "^", "max", "min", ">>", "<<", "/\\", "\\/", "\\", "div", "is", "=:=", "<", "Rem", "MOD", "ABS", "rem ", " mod", "absolute", "sgn", "++", "--", "///", "+-"} {
		all = append(all, f(name, i(6), i(2)), f(name, i(6)))
	}
	for _, x := range all {
		checkError(t, nil, x, api.ErrType)
		checkError(t, []api.Bind{to(0, v(1)), to(1, x)}, v(0), api.ErrType)
		checkError(t, nil, f("+", i(1), x), api.ErrType)
		checkError(t, nil, f("abs", x), api.ErrType)
	}
}

// P11.1: an operator of a name has the Args that it has, and no other number of them.
func TestHowManyArgs(t *testing.T) {
	for name, counts := range map[string][]int{"+": {2}, "-": {1, 2}, "*": {2}, "//": {2}, "rem": {2}, "mod": {2}, "abs": {1}, "sign": {1}} {
		for count := range 18 {
			x := f(name)
			for range count {
				x.Args = append(x.Args, i(3))
			}
			goes := false
			for _, c := range counts {
				goes = goes || c == count
			}
			if _, e := Eval(nil, x); goes != (e == api.OK) {
				t.Errorf("%s of %d Args: got %d", name, count, e)
			}
			if !goes {
				checkError(t, nil, x, api.ErrType)
				checkError(t, []api.Bind{to(4, x)}, f("sign", v(4)), api.ErrType)
			}
		}
	}
}

// P11.1
func TestNested(t *testing.T) {
	b := []api.Bind{to(0, i(10)), to(1, f("-", v(0), i(3))), to(2, f("*", v(1), v(1)))}
	for _, x := range []struct {
		t    api.Term
		want int64
	}{
		{f("*", f("+", i(1), i(2)), i(3)), 9}, {f("+", f("*", i(1), i(2)), i(3)), 5}, {f("-", f("-", i(9), i(4)), i(3)), 2}, {f("-", i(9), f("-", i(4), i(3))), 8},
		{f("//", f("//", i(100), i(7)), i(3)), 4}, {f("mod", f("-", i(7)), f("abs", f("-", i(3)))), 2}, {f("rem", f("-", i(7)), f("abs", f("-", i(3)))), -1},
		{f("sign", f("-", v(0), v(2))), -1}, {f("+", v(2), f("-", v(1))), 42}, {f("//", v(2), v(1)), 7}, {f("mod", v(2), v(0)), 9}, {f("-", f("-", f("-", v(2)))), -49},
		{f("-", f("+", i(top), i(-1)), f("+", i(low), f("abs", i(low+1)))), top},
	} {
		checkEval(t, b, x.t, x.want)
	}
	// What is over on the way is so, even where the whole would not be.
	checkError(t, nil, f("-", f("+", i(top), i(1)), i(1)), api.ErrEval)
	checkError(t, nil, f("*", f("*", i(1<<32), i(1<<31)), i(0)), api.ErrEval)
	checkError(t, nil, f("*", i(0), f("//", i(1), i(0))), api.ErrEval)
	checkError(t, nil, f("sign", f("abs", i(low))), api.ErrEval)
}
