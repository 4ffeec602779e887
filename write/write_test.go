package write

import (
	"math"
	"slices"
	"strings"
	"testing"

	"spinney/api"
	"spinney/term"
)

func v(n int64) api.Term { return api.Term{Kind: api.Var, N: n} }

func a(name string) api.Term { return api.Term{Kind: api.Atom, Name: name} }

func i(n int64) api.Term { return api.Term{Kind: api.Int, N: n} }

func f(name string, args ...api.Term) api.Term {
	return api.Term{Kind: api.Comp, Name: name, Args: args}
}

// list is the list of these, with that at its end.
func list(end api.Term, elements ...api.Term) api.Term {
	for _, x := range slices.Backward(elements) {
		end = f(".", x, end)
	}
	return end
}

// under is t under so many Comps of one Arg.
func under(levels int, t api.Term) api.Term {
	for range levels {
		t = f("s", t)
	}
	return t
}

// written is a term, and the text that it must have.
type written struct {
	t    api.Term
	want string
}

// ending is what must stand behind a text to end a clause.
func ending(text string) string {
	if strings.TrimRight(text, `+-*/\^<>=~:.?@#&$`) != text {
		return " .\n"
	}
	return ".\n"
}

// checkWritten holds that a term is written so, and ended as a clause.
func checkWritten(t *testing.T, x api.Term, want string) {
	t.Helper()
	if got, e := Text(x); got != want || e != api.OK {
		t.Errorf("Text: got %q, %d, want %q", got, e, want)
	}
	if got, e := Clause(x); got != want+ending(want) || e != api.OK {
		t.Errorf("Clause: got %q, %d, want %q and its end", got, e, want)
	}
}

func checkAll(t *testing.T, l []written) {
	t.Helper()
	for _, x := range l {
		checkWritten(t, x.t, x.want)
	}
}

// P7.1: the chapter's examples.
func TestExamples(t *testing.T) {
	checkAll(t, []written{
		{f("+", i(1), f("*", i(2), i(3))), "1 + 2 * 3"},
		{f("*", f("+", i(1), i(2)), i(3)), "(1 + 2) * 3"},
		{f("-", a("a")), "-(a)"},
		{f("-", a("-"), i(1)), "(-) - 1"},
		{f(".", a("a"), v(0)), "[a|_0]"},
		{f(",", a("a"), a("b")), "a,b"},
	})
	if got, e := Clause(a("+")); got != "+ .\n" || e != api.OK {
		t.Errorf("got %q, %d", got, e)
	}
}

// P7.1
func TestVarsAndInts(t *testing.T) {
	checkAll(t, []written{
		{v(0), "_0"}, {v(7), "_7"}, {v(123), "_123"}, {v(math.MaxInt64), "_9223372036854775807"},
		{i(0), "0"}, {i(42), "42"}, {i(-1), "-1"}, {i(-70), "-70"}, {i(math.MaxInt64), "9223372036854775807"}, {i(math.MinInt64), "-9223372036854775808"},
	})
}

// P7.1
func TestAtoms(t *testing.T) {
	for _, bare := range []string{"a", "foo", "aB_1", "z0", "[]", "{}", "!", ";", "#", "-->", "..", "is", "mod", "-", "+", "=", ":-", "?-", `\+`, "->", strings.Repeat("x", 255)} {
		checkWritten(t, a(bare), bare)
	}
	checkAll(t, []written{
		{a(""), "''"}, {a("A"), "'A'"}, {a("_0"), "'_0'"}, {a("-1"), "'-1'"}, {a("0"), "'0'"}, {a("a b"), "'a b'"}, {a("A b"), "'A b'"}, {a("it's"), `'it\'s'`}, {a(`\ `), `'\\ '`}, {a("é"), "'é'"},
		{a("."), "'.'"}, {a("/*"), "'/*'"}, {a(","), "','"}, {a("|"), "'|'"}, {a("("), "'('"}, {a("[ ]"), "'[ ]'"}, {a("\n\t"), `'\n\t'`}, {a("\x01"), `'\x1\'`}, {a("a="), "'a='"}, {a("a."), "'a.'"},
	})
}

// P7.1
func TestLists(t *testing.T) {
	empty, one := a("[]"), a("a")
	checkAll(t, []written{
		{list(empty, one), "[a]"}, {list(empty, one, a("b")), "[a,b]"}, {list(empty, v(0), i(-1), a("A"), empty), "[_0,-1,'A',[]]"}, {list(empty, empty), "[[]]"},
		{list(v(0), one), "[a|_0]"}, {list(v(1), one, v(0)), "[a,_0|_1]"}, {list(i(-1), one), "[a|-1]"}, {list(a("b"), one), "[a|b]"}, {list(a("{}"), one), "[a|{}]"}, {list(a("'"), one), `[a|'\'']`}, {list(f("f", one), one), "[a|f(a)]"}, {list(f("{}", one), one), "[a|{a}]"},
		{list(empty, list(empty, one)), "[[a]]"}, {list(list(empty, a("b")), one), "[a,b]"}, {list(empty, list(empty, one), list(v(0), a("b"), a("c"))), "[[a],[b,c|_0]]"}, {list(empty, list(empty, list(empty, empty))), "[[[[]]]]"}, {list(empty, f("f", list(empty, one), list(v(0), i(1)))), "[f([a],[1|_0])]"},
		// Of another number than two it is no list, nor is what only has the name.
		{f(".", one), "'.'(a)"}, {f(".", one, a("b"), a("c")), "'.'(a,b,c)"}, {f(".", f(".", one)), "'.'('.'(a))"}, {list(f(".", one), one), "[a|'.'(a)]"}, {list(f(".", one, one, one), one), "[a|'.'(a,a,a)]"}, {list(a("."), a(".")), "['.'|'.']"},
		// Only the Atom [] is no end that is told.
		{list(f("[]", one), one), "[a|'[]'(a)]"}, {list(a("nil"), one), "[a|nil]"}, {list(a("[ ]"), one), "[a|'[ ]']"}, {list(a(""), one), "[a|'']"},
		// Elements and the end stand within 999, and not as operands.
		{list(empty, f(",", one, a("b")), f(":-", one, a("b"))), "[(a,b),(a :- b)]"}, {list(f(",", one, a("b")), one), "[a|(a,b)]"}, {list(f(";", one, a("b")), one), "[a|(a ; b)]"}, {list(f("=", one, a("b")), f("=", one, a("b"))), "[a = b|a = b]"},
		{list(empty, a("-"), a(":-"), a(","), a("is")), "[-,:-,',',is]"}, {list(a(":-"), a("-")), "[-|:-]"}, {list(a(","), f("-", one)), "[-(a)|',']"},
	})
}

// P7.1
func TestBraces(t *testing.T) {
	one, both := a("a"), f(",", a("a"), a("b"))
	checkAll(t, []written{
		{f("{}", one), "{a}"}, {f("{}", v(3)), "{_3}"}, {f("{}", i(-1)), "{-1}"}, {f("{}", a("{}")), "{{}}"}, {f("{}", f("{}", one)), "{{a}}"}, {f("{}", list(a("[]"), one)), "{[a]}"},
		// The Arg stands within 1200, and not as an operand.
		{f("{}", both), "{a,b}"}, {f("{}", f(":-", one, both)), "{a :- a,b}"}, {f("{}", f(";", one, both)), "{a ; a,b}"}, {f("{}", a("-")), "{-}"}, {f("{}", a(":-")), "{:-}"}, {f("{}", a(",")), "{','}"},
		// Of another number than one.
		{f("{}", one, a("b")), "'{}'(a,b)"}, {f("{}", one, one, one), "'{}'(a,a,a)"}, {f("{}", both, one), "'{}'((a,b),a)"},
		{f("f", f("{}", both)), "f({a,b})"}, {f("-", f("{}", one)), "-({a})"}, {f("=", f("{}", both), f("{}", both)), "{a,b} = {a,b}"}, {list(a("[]"), f("{}", both)), "[{a,b}]"},
	})
}

// P7.1: the Comps that are written with their names ahead.
func TestCalled(t *testing.T) {
	one, both := a("a"), f(",", a("a"), a("b"))
	checkAll(t, []written{
		{f("f", one), "f(a)"}, {f("f", one, v(0), i(-1)), "f(a,_0,-1)"}, {f("A b", one), "'A b'(a)"}, {f("", one, one), "''(a,a)"}, {f("it's", a("it's")), `'it\'s'('it\'s')`}, {f("!", one), "!(a)"}, {f("|", one, one), "'|'(a,a)"}, {f("#", one, one), "#(a,a)"}, {f("-->", one, one), "-->(a,a)"},
		{f("[]", one), "'[]'(a)"}, {f("[]", one, one), "'[]'(a,a)"}, {f("f", f("[]", one)), "f('[]'(a))"}, {f("f", f("g", f("h", one), one)), "f(g(h(a),a))"}, {f("f", slices.Repeat([]api.Term{one}, 16)...), "f(" + strings.Repeat("a,", 15) + "a)"},
		// Prefix operators, and infix operators of another number than two.
		{f("-", i(1)), "-(1)"}, {f("-", i(-1)), "-(-1)"}, {f("-", f("-", one)), "-(-(a))"}, {f(`\+`, one), `\+(a)`}, {f(":-", one), ":-(a)"}, {f("?-", one), "?-(a)"}, {f(`\+`, one, one), `\+(a,a)`}, {f("?-", one, one), "?-(a,a)"},
		{f("+", one), "+(a)"}, {f("+", one, one, one), "+(a,a,a)"}, {f("is", one), "is(a)"}, {f("mod", one, one, one), "mod(a,a,a)"}, {f(",", one), "','(a)"}, {f(",", one, one, one), "','(a,a,a)"}, {f(";", one), ";(a)"}, {f("-", one, one, one), "-(a,a,a)"}, {f(":-", one, one, one), ":-(a,a,a)"},
		// Args stand within 999, and not as operands.
		{f("f", both), "f((a,b))"}, {f("f", both, both), "f((a,b),(a,b))"}, {f("f", f(":-", one, both)), "f((a :- a,b))"}, {f("f", f("->", one, one)), "f((a -> a))"}, {f("f", f("=", one, one), one), "f(a = a,a)"}, {f("-", both), "-((a,b))"}, {f("-", f("-", one, one)), "-(a - a)"}, {f(`\+`, both), `\+((a,b))`}, {f("[]", both), "'[]'((a,b))"},
		{f("f", a("-")), "f(-)"}, {f("f", a(":-"), a("+")), "f(:-,+)"}, {f("f", a(","), a(";")), "f(',',;)"}, {f("-", a("-")), "-(-)"}, {f("f", a("mod"), a(`\+`)), `f(mod,\+)`},
	})
}

// P7.1: what ends with a Sign has a blank behind it, and nothing else has.
func TestClauseEnds(t *testing.T) {
	for _, x := range []struct {
		t    api.Term
		want string
	}{
		{a("+"), "+ .\n"}, {a("-"), "- .\n"}, {a(":-"), ":- .\n"}, {a("#"), "# .\n"}, {a(".."), ".. .\n"}, {a("=.."), "=.. .\n"}, {a("*/"), "*/ .\n"}, {a(`\`), `\ .` + "\n"}, {a("&"), "& .\n"}, {a("$"), "$ .\n"}, {a("^"), "^ .\n"}, {a("~"), "~ .\n"}, {a("?"), "? .\n"}, {a("@"), "@ .\n"}, {a("<"), "< .\n"}, {a(">"), "> .\n"}, {a(":"), ": .\n"}, {a("/"), "/ .\n"},
		{f("=", a("a"), a("#")), "a = # .\n"}, {f(",", a("a"), a("-->")), "a,--> .\n"},
		{a("a"), "a.\n"}, {v(0), "_0.\n"}, {i(1), "1.\n"}, {i(-1), "-1.\n"}, {a("!"), "!.\n"}, {a(";"), ";.\n"}, {a("[]"), "[].\n"}, {a("{}"), "{}.\n"}, {a("is"), "is.\n"}, {a("."), "'.'.\n"}, {a("+ "), "'+ '.\n"}, {a(" +"), "' +'.\n"}, {a("/*"), "'/*'.\n"}, {a(","), "','.\n"}, {a("A"), "'A'.\n"}, {a("é"), "'é'.\n"},
		{f("+", a("a")), "+(a).\n"}, {f("f", a("+")), "f(+).\n"}, {list(a("[]"), a("+")), "[+].\n"}, {list(a("+"), a("+")), "[+|+].\n"}, {f("{}", a("+")), "{+}.\n"}, {f("=", a("a"), a("+")), "a = (+).\n"}, {f(":-", a("a"), f(",", a("b"), a("!"))), "a :- b,!.\n"},
	} {
		if got, e := Clause(x.t); got != x.want || e != api.OK {
			t.Errorf("got %q, %d, want %q", got, e, x.want)
		}
	}
}

// checkRefused holds that neither function writes a term, and that nothing is told beside the error.
func checkRefused(t *testing.T, k int, x api.Term, want api.Errno) {
	t.Helper()
	if got, e := Text(x); got != "" || e != want {
		t.Errorf("%d: Text: got %q, %d, want %d", k, got, e, want)
	}
	if got, e := Clause(x); got != "" || e != want {
		t.Errorf("%d: Clause: got %q, %d, want %d", k, got, e, want)
	}
	if e := term.Check(x); e != want {
		t.Errorf("%d: term.Check: got %d, want %d", k, e, want)
	}
}

// P7.1
func TestTermsThatMayNotBe(t *testing.T) {
	one, long := a("a"), strings.Repeat("x", 256)
	for k, x := range []api.Term{
		{}, {Kind: 5}, {Kind: -1, Name: "a"}, {Kind: math.MinInt64}, {Kind: 5, Name: ".", Args: []api.Term{one, one}},
		v(-1), v(math.MinInt64), {Kind: api.Var, Name: "X"}, {Kind: api.Var, Args: []api.Term{one}},
		{Kind: api.Int, Name: "1", N: 1}, {Kind: api.Int, N: 1, Args: []api.Term{one}},
		{Kind: api.Atom, Name: "a", N: 1}, {Kind: api.Atom, Name: "f", Args: []api.Term{one}}, a("\xff"), a("a\xc3"), a(long),
		f("f"), f("."), f("{}"), f("+"), f("f", slices.Repeat([]api.Term{one}, 17)...), {Kind: api.Comp, Name: "+", N: 1, Args: []api.Term{one, one}}, f("\xff", one), f(long, one, one),
	} {
		checkRefused(t, k, x, api.ErrTerm)
		for _, around := range []api.Term{f("f", x), f("{}", x), f("+", x, one), f("+", one, x), f(",", one, x), f(".", x, one), f(".", one, x), f("-", x), list(a("[]"), one, x, one), under(40, x), under(61, x)} {
			checkRefused(t, k, around, api.ErrTerm)
		}
	}
}

// P7.1
func TestDepth(t *testing.T) {
	chain := func(levels int, grow func(x api.Term) api.Term) api.Term {
		x := a("a")
		for range levels {
			x = grow(x)
		}
		return x
	}
	minus := func(x api.Term) api.Term { return f("-", x, i(1)) }
	plus := func(x api.Term) api.Term { return f("+", i(1), x) }
	and := func(x api.Term) api.Term { return f(",", a("b"), x) }
	braces := func(x api.Term) api.Term { return f("{}", x) }
	pair := func(x api.Term) api.Term { return f(".", i(1), x) }
	nested := func(x api.Term) api.Term { return f(".", x, a("[]")) }
	checkAll(t, []written{
		{under(59, a("a")), strings.Repeat("s(", 59) + "a" + strings.Repeat(")", 59)},
		{chain(59, minus), "a" + strings.Repeat(" - 1", 59)},
		{chain(59, plus), strings.Repeat("1 + (", 58) + "1 + a" + strings.Repeat(")", 58)},
		{chain(59, and), strings.Repeat("b,", 59) + "a"},
		{chain(59, braces), strings.Repeat("{", 59) + "a" + strings.Repeat("}", 59)},
		{chain(59, pair), "[1" + strings.Repeat(",1", 58) + "|a]"},
		{chain(59, nested), strings.Repeat("[", 59) + "a" + strings.Repeat("]", 59)},
	})
	for k, grow := range []func(x api.Term) api.Term{minus, plus, and, braces, pair, nested} {
		checkRefused(t, k, chain(60, grow), api.ErrDeep)
		checkRefused(t, k, chain(1000, grow), api.ErrDeep)
	}
	checkRefused(t, 0, under(60, v(0)), api.ErrDeep)
	checkRefused(t, 1, f("f", a("a"), under(59, v(0)), a("b")), api.ErrDeep)
	checkRefused(t, 2, f("f", under(100, v(0)), v(-1)), api.ErrTerm)
	checkRefused(t, 3, under(100, f("f")), api.ErrTerm)
}

// R2, R5: a term stays what it was, and what is asked again is answered again.
func TestTermsStay(t *testing.T) {
	args := make([]api.Term, 3, 8)
	copy(args, []api.Term{f("+", v(0), a("-")), list(v(1), a("a"), i(-1)), f("{}", f(",", a("b"), v(0)))})
	x := f("f", args...)
	was := term.Copy(x)
	for range 3 {
		checkWritten(t, x, "f(_0 + (-),[a,-1|_1],{b,_0})")
	}
	if !term.Same(x, was) {
		t.Error("the term is another one")
	}
	for _, x := range args[3:8] {
		if !term.Same(x, api.Term{}) {
			t.Error("something was laid behind the Args")
		}
	}
}
