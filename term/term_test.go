package term

import (
	"math"
	"runtime/debug"
	"slices"
	"strconv"
	"strings"
	"testing"

	"spinney/api"
)

const (
	top = math.MaxInt64
	low = math.MinInt64
)

func v(n int64) api.Term { return api.Term{Kind: api.Var, N: n} }

func a(name string) api.Term { return api.Term{Kind: api.Atom, Name: name} }

func i(n int64) api.Term { return api.Term{Kind: api.Int, N: n} }

func f(name string, args ...api.Term) api.Term {
	return api.Term{Kind: api.Comp, Name: name, Args: args}
}

// under is t under so many Comps of one Arg.
func under(levels int, t api.Term) api.Term {
	for range levels {
		t = f("s", t)
	}
	return t
}

// many are count Args, each t.
func many(count int, t api.Term) []api.Term {
	return slices.Repeat([]api.Term{t}, count)
}

// good are terms that may be.
func good() []api.Term {
	leaves := []api.Term{v(0), v(1), v(10), v(top), i(low), i(-1), i(0), i(1), i(10), i(top), a(""), a("a"), a("aa"), a("b"), a("B"), a("_0"), a("0"), a("-1"), a("a,b"), a("f(a)"), a("é"), a("[]"), a("'"), a("\\"), a("\n")}
	out := slices.Clone(leaves)
	for _, x := range leaves {
		out = append(out, f("f", x), f("", x), f("f(a", x), f("f", f("f", x)))
	}
	few := []api.Term{v(0), v(1), i(1), a("a"), f("f", v(0)), f("a", a("b"), v(1))}
	for _, x := range few {
		for _, y := range few {
			out = append(out, f("f", x, y), f("g", x, y), f("f", f("g", x), y), f("f", f("g", x, y)))
		}
	}
	return append(out, f("f", v(0), v(1), v(0)), f("f", many(16, a("a"))...), under(59, v(3)), under(59, a("x")))
}

// wrong are terms that may not be, none of them deeper than 60 but the last ones.
func wrong() []api.Term {
	long := strings.Repeat("a", api.MaxName+1)
	out := []api.Term{
		{}, {Kind: 5}, {Kind: -1}, {Kind: 0, Name: "a"}, {Kind: low}, {Kind: 5, Name: "f", Args: []api.Term{a("a")}},
		v(-1), v(low), {Kind: api.Var, Name: "X"}, {Kind: api.Var, Name: "X", N: 3}, {Kind: api.Var, N: 1, Args: []api.Term{v(2), v(1)}},
		{Kind: api.Int, Name: "1", N: 1}, {Kind: api.Int, N: 1, Args: []api.Term{i(1)}},
		{Kind: api.Atom, Name: "a", N: 1}, {Kind: api.Atom, Name: "a", N: -1}, {Kind: api.Atom, Name: "f", Args: []api.Term{v(7)}}, a("\xff"), a("a\xc3"), a(long),
		{Kind: api.Comp}, f("f"), {Kind: api.Comp, Name: "f", Args: []api.Term{}}, f("f", many(17, a("a"))...), f("f", many(300, v(2))...),
		{Kind: api.Comp, Name: "f", N: 1, Args: []api.Term{a("a")}}, {Kind: api.Comp, Name: "f", N: low, Args: []api.Term{a("a")}},
		f("\xff", a("a")), f(long, a("a")),
	}
	for _, x := range slices.Clone(out) {
		out = append(out, f("f", x), f("f", v(0), x), f("f", f("g", i(1), x), a("b")), under(40, x))
	}
	for _, x := range slices.Clone(out) {
		out = append(out, under(61, x))
	}
	return out
}

func all() []api.Term { return append(good(), wrong()...) }

// slowSame goes by the words of P3.2.
func slowSame(a, b api.Term) bool {
	if a.Kind != b.Kind || a.Name != b.Name || a.N != b.N || len(a.Args) != len(b.Args) {
		return false
	}
	for k := range a.Args {
		if !slowSame(a.Args[k], b.Args[k]) {
			return false
		}
	}
	return true
}

// dirty writes over every part of a term, in its own memory.
func dirty(list []api.Term) {
	for k := range list {
		dirty(list[k].Args)
		list[k] = api.Term{Kind: 77, Name: "dirty", N: 77}
	}
}

// picture tells all of a term, whatever it is.
func picture(t api.Term) string {
	out := strconv.Itoa(t.Kind) + strconv.Quote(t.Name) + strconv.FormatInt(t.N, 10) + "["
	for _, x := range t.Args {
		out += picture(x)
	}
	return out + "]"
}

// P3.1
func TestCheckGood(t *testing.T) {
	for _, x := range good() {
		if e := Check(x); e != api.OK {
			t.Errorf("Check(%s): got %d", picture(x), e)
		}
	}
	for k, x := range []api.Term{
		a(strings.Repeat("a", api.MaxName)), f(strings.Repeat("a", api.MaxName), v(0)), a("\ufffd"),
		f("f", v(0)), f("f", many(16, v(0))...), under(58, f("f", many(16, v(0))...)),
		{Kind: api.Atom, Name: "a", Args: []api.Term{}}, {Kind: api.Var, Args: []api.Term{}}, {Kind: api.Int, Args: []api.Term{}},
	} {
		if e := Check(x); e != api.OK {
			t.Errorf("%d: got %d", k, e)
		}
	}
}

// P3.1
func TestCheckWrong(t *testing.T) {
	for _, x := range wrong() {
		if e := Check(x); e != api.ErrTerm {
			t.Errorf("Check(%s): got %d", picture(x), e)
		}
	}
}

// P3.1: the depth is asked of the deepest part, wherever it stands, and what may not be comes ahead of what is too deep.
func TestCheckDepth(t *testing.T) {
	at60, at61 := under(59, a("x")), under(60, a("x"))
	for k, x := range []struct {
		t api.Term
		e api.Errno
	}{
		{at60, api.OK}, {at61, api.ErrDeep}, {under(59, v(0)), api.OK}, {under(60, i(1)), api.ErrDeep}, {under(500, v(0)), api.ErrDeep},
		{f("f", at60), api.ErrDeep}, {f("f", a("a"), at60, a("b")), api.ErrDeep}, {f("f", under(58, a("x")), a("b")), api.OK},
		{f("f", many(16, under(58, a("x")))...), api.OK}, {f("f", append(many(15, under(58, a("x"))), at60)...), api.ErrDeep},
		{under(59, f("f")), api.ErrTerm}, {under(60, v(-1)), api.ErrTerm}, {under(300, v(-1)), api.ErrTerm},
		{f("f", at61, v(-1)), api.ErrTerm}, {f("f", v(-1), at61), api.ErrTerm}, {f("f", many(17, at61)...), api.ErrTerm},
		{api.Term{Kind: api.Atom, Name: "a", Args: []api.Term{at61}}, api.ErrTerm},
	} {
		if e := Check(x.t); e != x.e {
			t.Errorf("%d: got %d, want %d", k, e, x.e)
		}
	}
}

// P3.2
func TestDeepSize(t *testing.T) {
	for k, x := range []struct {
		t          api.Term
		deep, size int
	}{
		{v(0), 1, 1}, {a(""), 1, 1}, {i(-1), 1, 1}, {f("f", v(0)), 2, 2}, {f("f", v(0), v(0), v(0)), 2, 4},
		{f("f", v(3), f("g", v(1), v(3)), i(7)), 3, 6}, {f("f", f("g", f("h", i(1))), i(7)), 4, 5}, {f("f", i(7), f("g", f("h", i(1)))), 4, 5},
		{under(59, a("x")), 60, 60}, {under(60, a("x")), 61, 61}, {under(1000, a("x")), 1001, 1001}, {f("f", many(17, i(0))...), 2, 18}, {f("f", many(1000, f("g", i(0)))...), 3, 2001},
		{api.Term{}, 1, 1}, {f("f"), 1, 1}, {api.Term{Kind: api.Comp, Args: []api.Term{}}, 1, 1}, {api.Term{Kind: 9, Args: many(2, v(0))}, 2, 3},
		{api.Term{Kind: api.Atom, Name: "a", Args: []api.Term{f("f", v(-1))}}, 3, 3}, {api.Term{Kind: api.Var, Args: many(3, api.Term{})}, 2, 4}, {api.Term{Kind: api.Int, Args: many(3, f("f"))}, 2, 4},
	} {
		if deep, size := Deep(x.t), Size(x.t); deep != x.deep || size != x.size {
			t.Errorf("%d: got %d, %d, want %d, %d", k, deep, size, x.deep, x.size)
		}
	}
}

// P3.2
func TestSame(t *testing.T) {
	terms := all()
	for _, x := range terms {
		for _, y := range terms {
			if got, want := Same(x, y), slowSame(x, y); got != want {
				t.Errorf("Same(%s, %s): got %t", picture(x), picture(y), got)
			}
		}
	}
	for k, x := range []struct {
		a, b api.Term
		is   bool
	}{
		{f("f", v(0), i(1)), f("f", v(0), i(1)), true}, {f("f", v(0), i(1)), f("f", v(1), i(1)), false}, {f("f", v(0)), f("f", v(0), v(0)), false},
		{f("f", v(0), v(0)), f("f", v(0)), false}, {f("f", a("a"), a("b")), f("f", a("b"), a("a")), false}, {a("a"), f("a"), false}, {i(0), v(0), false},
		{api.Term{Kind: api.Atom, Name: "a", N: 1}, a("a"), false}, {api.Term{Kind: api.Int, Name: "a", N: 1}, i(1), false}, {api.Term{Kind: api.Atom, Args: many(1, v(0))}, api.Term{Kind: api.Atom, Args: many(1, v(1))}, false},
		{api.Term{}, api.Term{Kind: 5}, false}, {api.Term{}, api.Term{}, true}, {f("f"), api.Term{Kind: api.Comp, Name: "f", Args: []api.Term{}}, true},
		{under(300, a("x")), under(300, a("x")), true}, {under(300, a("x")), under(300, a("y")), false}, {under(300, a("x")), under(301, a("x")), false},
	} {
		if got := Same(x.a, x.b); got != x.is {
			t.Errorf("%d: got %t", k, got)
		}
	}
}

// P3.2: what is answered is in memory of its own, and what was given stays as it was.
func TestCopyAndShiftAreTheCallersOwn(t *testing.T) {
	for name, copied := range map[string]func(api.Term) api.Term{
		"Copy":  Copy,
		"Shift": func(x api.Term) api.Term { return Shift(x, 5) },
	} {
		for _, x := range all() {
			before := picture(x)
			got := copied(x)
			if name == "Copy" && picture(got) != before {
				t.Errorf("%s(%s): got %s", name, before, picture(got))
			}
			dirty(got.Args)
			if picture(x) != before {
				t.Errorf("%s(%s): the argument is now %s", name, before, picture(x))
			}
		}
	}
}

// P3.2: lists that are one in the argument are not one in the answer, and none has room that is somebody else's.
func TestCopySharesNothing(t *testing.T) {
	list := []api.Term{v(1), a("a")}
	got := Copy(f("f", f("g", list...), f("g", list...)))
	got.Args[0].Args[0] = a("other")
	if want := f("f", f("g", a("other"), a("a")), f("g", v(1), a("a"))); !slowSame(got, want) {
		t.Errorf("got %s", picture(got))
	}
	room := []api.Term{a("a"), a("b")}
	for _, x := range []api.Term{f("f", room[:1]...), f("f", room[:0]...), f("g", f("f", room[:0]...))} {
		got := Copy(x)
		_ = append(got.Args, a("other"))
		if len(got.Args) > 0 {
			_ = append(got.Args[0].Args, a("other"))
		}
		if room[0].Name != "a" || room[1].Name != "b" {
			t.Fatalf("got %v", room)
		}
	}
}

// P3.2
func TestVars(t *testing.T) {
	for k, x := range []struct {
		t    api.Term
		vars []int64
	}{
		{a("a"), nil}, {i(5), nil}, {f("f", a("a"), i(3)), nil}, {v(4), []int64{4}}, {f("f", v(4), v(4)), []int64{4}},
		{f("f", v(3), f("g", v(1), v(3)), v(1), i(7), v(0)), []int64{3, 1, 0}}, {f("f", f("g", f("h", v(9)), v(2)), v(1), v(9)), []int64{9, 2, 1}},
		{f("f", v(2), v(1), v(0), v(1), v(2)), []int64{2, 1, 0}}, {under(400, f("f", v(6), v(5), v(6))), []int64{6, 5}}, {v(top), []int64{top}},
		{f("f", v(-1), v(low), v(-1)), []int64{-1, low}}, {api.Term{Kind: api.Var, N: 1, Args: []api.Term{v(2), v(1)}}, []int64{1, 2}},
		{api.Term{Kind: api.Atom, Name: "a", N: 3, Args: []api.Term{v(8)}}, []int64{8}}, {api.Term{Kind: 0, N: 3, Args: []api.Term{v(8), i(2)}}, []int64{8}}, {api.Term{}, nil},
	} {
		if got := Vars(x.t); !slices.Equal(got, x.vars) {
			t.Errorf("%d: got %v, want %v", k, got, x.vars)
		}
	}
}

// P3.2: whoever leaves off in the middle is told nothing more.
func TestVarsAreLeftOff(t *testing.T) {
	var got []int64
	for n := range vars(f("f", v(3), f("g", v(1)), v(3), v(2))) {
		got = append(got, n)
		if len(got) == 3 {
			break
		}
	}
	if !slices.Equal(got, []int64{3, 1, 3}) {
		t.Errorf("got %v", got)
	}
}

// P3.2
func TestShift(t *testing.T) {
	for k, x := range []struct {
		t    api.Term
		by   int64
		want api.Term
	}{
		{f("f", v(3), f("g", v(1), v(3)), i(7)), 2, f("f", v(5), f("g", v(3), v(5)), i(7))}, {f("f", v(3), v(0)), 0, f("f", v(3), v(0))}, {v(5), -5, v(0)}, {v(0), -1, v(-1)},
		{v(top), 1, v(low)}, {f("f", v(top), v(1)), top, f("f", v(-2), v(low))}, {v(low), -1, v(top)}, {v(low), low, v(0)}, {v(-1), low, v(top)},
		{a("a"), 9, a("a")}, {i(4), 9, i(4)}, {api.Term{Kind: api.Atom, Name: "a", N: 1}, 9, api.Term{Kind: api.Atom, Name: "a", N: 1}}, {api.Term{Kind: 7, N: 1}, 9, api.Term{Kind: 7, N: 1}},
		{api.Term{Kind: api.Var, Name: "X", N: 1, Args: []api.Term{v(2), i(2)}}, 9, api.Term{Kind: api.Var, Name: "X", N: 10, Args: []api.Term{v(11), i(2)}}},
		{api.Term{Kind: api.Comp, Name: "f", N: 2, Args: []api.Term{v(2)}}, 9, api.Term{Kind: api.Comp, Name: "f", N: 2, Args: []api.Term{v(11)}}}, {under(400, v(2)), 9, under(400, v(11))},
	} {
		if got := Shift(x.t, x.by); !slowSame(got, x.want) {
			t.Errorf("%d: got %s, want %s", k, picture(got), picture(x.want))
		}
	}
}

// P3.3
func TestVariant(t *testing.T) {
	for k, x := range []struct {
		a, b api.Term
		is   bool
	}{
		{f("f", v(0), v(1), v(0)), f("f", v(1), v(0), v(1)), true}, {f("f", v(0), v(1), v(0)), f("f", v(7), v(2), v(7)), true}, {f("f", v(0), v(1), v(0)), f("f", v(0), v(1), v(2)), false},
		{f("f", v(0), v(1)), f("f", v(0), v(0)), false}, {f("f", v(0), v(0)), f("f", v(0), v(1)), false}, {f("f", v(0), v(1)), f("f", v(1), v(2)), true}, {f("f", v(0), v(1)), f("f", v(1), v(1)), false},
		{f("f", v(0), f("g", v(1), v(0))), f("f", v(5), f("g", v(4), v(5))), true}, {f("f", v(0), f("g", v(1), v(0))), f("f", v(5), f("g", v(4), v(4))), false},
		{v(0), v(0), true}, {v(0), v(top), true}, {v(0), a("a"), false}, {a("a"), v(0), false}, {v(1), i(1), false}, {i(1), v(1), false}, {a("a"), a("a"), true}, {a("a"), a("b"), false}, {i(1), i(1), true}, {i(1), i(2), false},
		{f("f", v(0)), f("g", v(0)), false}, {f("f", v(0)), f("f", v(0), v(1)), false}, {f("f", v(0), v(1)), f("f", v(0)), false}, {f("f", v(0), i(0)), f("f", v(1), i(1)), false},
		{v(-1), v(low), true}, {api.Term{Kind: api.Var, Name: "X"}, v(1), false}, {api.Term{Kind: api.Var, Name: "X"}, api.Term{Kind: api.Var, Name: "X", N: 3}, true},
		{api.Term{Kind: api.Var, Args: many(1, v(0))}, api.Term{Kind: api.Var, N: 4, Args: many(1, v(4))}, true}, {api.Term{Kind: api.Var, Args: many(1, v(0))}, api.Term{Kind: api.Var, N: 4, Args: many(1, v(5))}, false},
		{api.Term{Kind: api.Var, Args: many(1, v(0))}, v(4), false}, {api.Term{Kind: api.Atom, Name: "a", N: 1}, a("a"), false}, {api.Term{}, api.Term{}, true}, {api.Term{}, api.Term{Kind: 6}, false},
		{under(400, f("f", v(0), v(1))), under(400, f("f", v(1), v(0))), true}, {under(400, f("f", v(0), v(1))), under(400, f("f", v(1), v(1))), false},
	} {
		if got := Variant(x.a, x.b); got != x.is {
			t.Errorf("%d: got %t", k, got)
		}
		if got := Variant(x.b, x.a); got != x.is {
			t.Errorf("%d, turned round: got %t", k, got)
		}
	}
}

// numbered is t with its Vars numbered in the order of their first places: two terms are variants, just if it is one term.
func numbered(t api.Term) api.Term {
	out, met := Copy(t), Vars(t)
	var walk func(x *api.Term)
	walk = func(x *api.Term) {
		if x.Kind == api.Var {
			x.N = int64(slices.Index(met, x.N))
		}
		for k := range x.Args {
			walk(&x.Args[k])
		}
	}
	walk(&out)
	return out
}

// P3.3
func TestVariantOfAll(t *testing.T) {
	terms := all()
	var renumbered []api.Term
	for _, x := range terms {
		renumbered = append(renumbered, numbered(x))
	}
	for k, x := range terms {
		for n, y := range terms {
			if got, want := Variant(x, y), slowSame(renumbered[k], renumbered[n]); got != want {
				t.Errorf("Variant(%s, %s): got %t", picture(x), picture(y), got)
			}
		}
	}
}

// P3.3
func TestCompare(t *testing.T) {
	ordered := []api.Term{
		v(0), v(1), v(2), v(10), v(top), i(low), i(-10), i(-2), i(0), i(2), i(10), i(top),
		a(""), a("\x00"), a("!"), a("B"), a("[]"), a("a"), a("a "), a("aa"), a("ab"), a("b"), a("z"), a("é"), a("\uffff"), a("\U00010000"),
		f("", i(1)), f("b", i(1)), f("c", v(9)), f("c", i(0)), f("c", i(1)), f("c", a("a")), f("c", f("a", i(1))), f("c", f("a", i(2))), f("c", f("a", i(0), i(0))), f("cc", v(0)),
		f("a", i(1), i(1)), f("a", i(1), i(2)), f("a", i(2), i(1)), f("a", f("z", a("a")), f("z", a("b"))), f("a", f("z", a("b")), v(0)), f("b", v(0), v(0)), f("", v(0), v(0), v(0)), f("f", many(16, v(0))...),
	}
	for k, x := range ordered {
		for n, y := range ordered {
			want := 0
			if k < n {
				want = -1
			} else if k > n {
				want = 1
			}
			if got := Compare(x, y); got != want {
				t.Errorf("Compare(%s, %s): got %d, want %d", picture(x), picture(y), got, want)
			}
		}
	}
}

// P3.3: of terms that may not be it ends all the same, with one of the three answers.
func TestCompareEnds(t *testing.T) {
	terms := all()
	for _, x := range wrong() {
		for _, y := range terms {
			for _, c := range []int{Compare(x, y), Compare(y, x)} {
				if c < -1 || c > 1 {
					t.Errorf("Compare of %s and %s: got %d", picture(x), picture(y), c)
				}
			}
		}
	}
}

// P3.4
func TestText(t *testing.T) {
	for want, x := range map[string]api.Term{
		"f(_0,'A b',-1)": f("f", v(0), a("A b"), i(-1)), "[]": a("[]"), "{}": a("{}"), "','(a,'')": f(",", a("a"), a("")), "-(-)": f("-", a("-")), "_7": v(7), "_9223372036854775807": v(top), "0": i(0), "-9223372036854775808": i(low),
		"'_0'": a("_0"), "'-1'": a("-1"), "'.'(1,'.'(2,[]))": f(".", i(1), f(".", i(2), a("[]"))), `'it\'s'(_1)`: f("it's", v(1)), "''('')": f("", a("")), `'\n\x0\'`: a("\n\x00"), ":-(f(_0),!)": f(":-", f("f", v(0)), a("!")),
		"a(b(c(d),e),f)": f("a", f("b", f("c", a("d")), a("e")), a("f")), "[](1)": f("[]", i(1)), "'é'": a("é"),
	} {
		if got, e := Text(x); got != want || e != api.OK {
			t.Errorf("got %q, %d, want %q", got, e, want)
		}
	}
	nested := strings.Repeat("s(", 59) + "x" + strings.Repeat(")", 59)
	if got, e := Text(under(59, a("x"))); got != nested || e != api.OK {
		t.Errorf("got %q, %d", got, e)
	}
	wide := "f(" + strings.Repeat("_0,", 15) + "_0)"
	if got, e := Text(f("f", many(16, v(0))...)); got != wide || e != api.OK {
		t.Errorf("got %q, %d", got, e)
	}
}

// P3.4
func TestTextOfWrong(t *testing.T) {
	for _, x := range wrong() {
		if s, e := Text(x); s != "" || e != api.ErrTerm {
			t.Errorf("Text(%s): got %q, %d", picture(x), s, e)
		}
	}
	for _, x := range []api.Term{under(60, a("x")), f("f", v(0), under(60, v(0))), under(1000, i(1))} {
		if s, e := Text(x); s != "" || e != api.ErrDeep {
			t.Errorf("got %q, %d", s, e)
		}
	}
}

// P3.5
func TestTextAndCompareTellTermsApart(t *testing.T) {
	terms := good()
	texts := make([]string, len(terms))
	for k, x := range terms {
		text, e := Text(x)
		if e != api.OK {
			t.Fatalf("Text(%s): got %d", picture(x), e)
		}
		texts[k] = text
	}
	for k, x := range terms {
		for n, y := range terms {
			same, c := Same(x, y), Compare(x, y)
			if (texts[k] == texts[n]) != same || (c == 0) != same || Compare(y, x) != -c {
				t.Errorf("%q, %q: got %t, %d, turned round %d", texts[k], texts[n], same, c, Compare(y, x))
			}
		}
	}
}

// P3.5: it goes on from two to three, just if sorted terms are in order however far they stand apart.
func TestCompareGoesOn(t *testing.T) {
	terms := good()
	slices.SortStableFunc(terms, Compare)
	for k, x := range terms {
		for _, y := range terms[k+1:] {
			if c := Compare(x, y); c > 0 {
				t.Errorf("Compare(%s, %s): got %d", picture(x), picture(y), c)
			}
		}
	}
}

// P3.5
func TestShiftIsAVariant(t *testing.T) {
	for _, x := range all() {
		for _, by := range []int64{0, 1, -1, 1000, top, low} {
			shifted := Shift(x, by)
			if !Variant(x, shifted) || !Variant(shifted, x) {
				t.Errorf("%s, by %d", picture(x), by)
			}
			if !Same(Shift(shifted, -by), x) {
				t.Errorf("%s, by %d and back", picture(x), by)
			}
		}
	}
}

// P3.1 to P3.4, R1: no call panics, however deep a term is. The stack is kept small so that a moderate depth tells.
func TestVeryDeep(t *testing.T) {
	defer debug.SetMaxStack(debug.SetMaxStack(1 << 20))
	const levels = 100000
	x, y := under(levels, f("f", v(1), v(2))), under(levels, f("f", v(1), v(3)))
	if Check(x) != api.ErrDeep || Check(under(levels, v(-1))) != api.ErrTerm {
		t.Errorf("Check: got %d, %d", Check(x), Check(under(levels, v(-1))))
	}
	if Deep(x) != levels+2 || Size(x) != levels+3 || !slices.Equal(Vars(x), []int64{1, 2}) {
		t.Errorf("got %d, %d, %v", Deep(x), Size(x), Vars(x))
	}
	if !Same(Copy(x), x) || Same(x, y) || !Variant(x, y) || Variant(x, f("s", y)) || !Same(Shift(x, 1), under(levels, f("f", v(2), v(3)))) {
		t.Errorf("Copy, Same, Variant or Shift")
	}
	if Compare(x, y) != -1 || Compare(y, x) != 1 || Compare(x, x) != 0 {
		t.Errorf("Compare: got %d, %d, %d", Compare(x, y), Compare(y, x), Compare(x, x))
	}
	if s, e := Text(x); s != "" || e != api.ErrDeep {
		t.Errorf("Text: got %q, %d", s, e)
	}
}
