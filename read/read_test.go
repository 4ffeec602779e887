package read

import (
	"math"
	"slices"
	"strconv"
	"strings"
	"testing"

	"spinney/api"
	"spinney/char"
	"spinney/term"
)

// Variables, as the tests write them; atom, integer and comp are the package's own.
func variable(n int64) api.Term { return api.Term{Kind: api.Var, N: n} }

// text tells a term in brackets and commas alone, however deep it is.
func text(x api.Term) string {
	switch x.Kind {
	case api.Var:
		return "_" + strconv.FormatInt(x.N, 10)
	case api.Int:
		return strconv.FormatInt(x.N, 10)
	case api.Atom:
		return char.Write(x.Name)
	}
	var args []string
	for _, arg := range x.Args {
		args = append(args, text(arg))
	}
	return char.Write(x.Name) + "(" + strings.Join(args, ",") + ")"
}

// isZero tells whether a term is none at all.
func isZero(x api.Term) bool {
	return x.Kind == 0 && x.Name == "" && x.N == 0 && len(x.Args) == 0
}

// checkRead holds that src is read as the term of that text: as a query without a full stop and with one, and as a program.
func checkRead(t *testing.T, src, want string) {
	t.Helper()
	for _, end := range []string{"", " .", "\n. % end"} {
		x, names, at, e := Query(src + end)
		if text(x) != want || at != 0 || e != api.OK {
			t.Errorf("Query(%q): got %s, %d, %d, want %s", src+end, text(x), at, e, want)
		}
		if len(names) != len(term.Vars(x)) {
			t.Errorf("Query(%q): got the names %q", src+end, names)
		}
	}
	l, at, e := Program(src + " .")
	if len(l) != 1 || text(l[0]) != want || at != 0 || e != api.OK {
		t.Errorf("Program(%q): got %d terms, %d, %d, want %s", src+" .", len(l), at, e, want)
	}
}

// checkQuery holds that src, as a query, is refused like that, and that nothing else is told.
func checkQuery(t *testing.T, src string, place int, want api.Errno) {
	t.Helper()
	if x, names, at, e := Query(src); !isZero(x) || len(names) != 0 || at != place || e != want {
		t.Errorf("Query(%q): got %s, %q, %d, %d, want %d at %d", src, text(x), names, at, e, want, place)
	}
}

// checkProgram holds the same of src as a program.
func checkProgram(t *testing.T, src string, place int, want api.Errno) {
	t.Helper()
	if l, at, e := Program(src); len(l) != 0 || at != place || e != want {
		t.Errorf("Program(%q): got %d terms, %d, %d, want %d at %d", src, len(l), at, e, want, place)
	}
}

// unmark takes the mark ¦ out of a source, and tells where it stood.
func unmark(t *testing.T, marked string) (string, int) {
	t.Helper()
	ahead, behind, ok := strings.Cut(marked, "¦")
	if !ok {
		t.Fatalf("no mark in %q", marked)
	}
	return ahead + behind, len(ahead)
}

// checkRefused holds that a source is ErrSyntax at its mark, as a query and as a program.
func checkRefused(t *testing.T, marked string) {
	t.Helper()
	src, place := unmark(t, marked)
	checkQuery(t, src, place, api.ErrSyntax)
	checkProgram(t, src, place, api.ErrSyntax)
	if place == len(src) {
		// Where the source must not end a full stop does not go either.
		place++
	}
	checkQuery(t, src+" .", place, api.ErrSyntax)
	checkProgram(t, src+" .", place, api.ErrSyntax)
}

// P6.1, P6.2
func TestExamples(t *testing.T) {
	checkRead(t, "a :- b, c", ":-(a,','(b,c))")
	checkRead(t, "X = - 1", "=(_0,-(1))")
	checkRead(t, "X = -1", "=(_0,-1)")
	checkRead(t, "[a|T]", "'.'(a,_0)")
	checkRead(t, "- = x", "=(-,x)")
	checkRefused(t, "f(¦:- a)")
	checkRefused(t, "a ¦b")
	if x, _, _, e := Query("a :- b, c."); e != api.OK || !term.Same(x, comp(":-", atom("a"), comp(",", atom("b"), atom("c")))) {
		t.Errorf("got %s, %d", text(x), e)
	}
}

// P6.1
func TestBeginnings(t *testing.T) {
	for src, want := range map[string]string{
		"0": "0", "7": "7", "007": "7", "9223372036854775807": "9223372036854775807", "0'a": "97", "0' ": "32", "0'''": "39",
		"X": "_0", "_": "_0", "_x": "_0", "Xy_1": "_0",
		"(a)": "a", "( a )": "a", "((a))": "a", "(X)": "_0", "(1)": "1", "(-)": "-", "(:-)": ":-", "([])": "[]", "(a :- b)": ":-(a,b)", "(%\na)": "a", "(a, b)": "','(a,b)",
		"a": "a", "foo_Bar1": "foo_Bar1", "'a b'": "'a b'", "''": "''", "'X'": "'X'", "'[]'": "[]", "'{}'": "{}", "','": "','", "'|'": "'|'", "'('": "'('", "'.'": "'.'", "!": "!", ";": ";", "+": "+", "=..": "=..", "#": "#", "is": "is", "mod": "mod", "*": "*", "-": "-", "\\+": "\\+", ":-": ":-", "?-": "?-",
		"[]": "[]", "[ ]": "[]", "[/**/]": "[]", "{}": "{}", "{ }": "{}", "{%\n}": "{}",
		"{a}": "{}(a)", "{ - }": "{}(-)", "{a, b}": "{}(','(a,b))", "{a :- b}": "{}(:-(a,b))", "{:- a}": "{}(:-(a))", "{{}}": "{}({})", "{[]}": "{}([])",
		"f(a)": "f(a)", "f( a , X )": "f(a,_0)", "'a b'(c)": "'a b'(c)", "''(a)": "''(a)", "+(a)": "+(a)", "!(a)": "!(a)", ";(a)": ";(a)", "','(a, b)": "','(a,b)", "is(a)": "is(a)", "f((a, b))": "f(','(a,b))", "f((a :- b), c)": "f(:-(a,b),c)", "f(-)": "f(-)", "f(=, :-)": "f(=,:-)", "f(- , -)": "f(-,-)", "f([], {})": "f([],{})", "f(g(h(a)))": "f(g(h(a)))",
	} {
		checkRead(t, src, want)
		checkRead(t, " "+src+" ", want)
	}
	checkRead(t, "f(a, 'b c', 1, X, [], {}, (d), [e], {g}, -1, - , h(i))", "f(a,'b c',1,_0,[],{},d,'.'(e,[]),{}(g),-1,-,h(i))")
}

// P6.1: a bracket right behind an operator between two terms opens no arguments.
func TestBracketsBehindInfix(t *testing.T) {
	for src, want := range map[string]string{
		"a=(b)": "=(a,b)", "a-(b)": "-(a,b)", "a-(b,c)": "-(a,','(b,c))", "a:-(b,c)": ":-(a,','(b,c))", "1-(2)": "-(1,2)", "a is(b)": "is(a,b)", "a;(b)": ";(a,b)", "a '='(b)": "=(a,b)", "X=(Y)": "=(_0,_1)", "a- -(b)": "-(a,-(b))", "a=b(c)": "=(a,b(c))", "a=(b)-(c)": "=(a,-(b,c))", "[a]=(b)": "=('.'(a,[]),b)",
	} {
		checkRead(t, src, want)
	}
	checkRefused(t, "[]¦(a)")
	checkRefused(t, "[a]¦(a)")
	checkRefused(t, "{}¦(a)")
	checkRefused(t, "{a}¦(a)")
	checkRefused(t, "X¦(a)")
	checkRefused(t, "1¦(a)")
	checkRefused(t, "a ¦(b)")
	checkRefused(t, "(a)¦(b)")
	checkRefused(t, "f(a)¦(b)")
	checkRefused(t, "a =(¦)")
}

// P6.1
func TestLists(t *testing.T) {
	for src, want := range map[string]string{
		"[a]": "'.'(a,[])", "[a, b]": "'.'(a,'.'(b,[]))", "[a,b,c]": "'.'(a,'.'(b,'.'(c,[])))", "[a|b]": "'.'(a,b)", "[a, b|c]": "'.'(a,'.'(b,c))", "[a|[]]": "'.'(a,[])", "[a|[b]]": "'.'(a,'.'(b,[]))", "[a|[b|c]]": "'.'(a,'.'(b,c))", "[[]]": "'.'([],[])", "[[a], b]": "'.'('.'(a,[]),'.'(b,[]))",
		"[X, Y|X]": "'.'(_0,'.'(_1,_0))", "[ a | T ]": "'.'(a,_0)", "[-]": "'.'(-,[])", "[-|-]": "'.'(-,-)", "[- , -]": "'.'(-,'.'(-,[]))", "[(a, b)]": "'.'(','(a,b),[])", "[(a :- b)|(c, d)]": "'.'(:-(a,b),','(c,d))", "[a = b|c = d]": "'.'(=(a,b),=(c,d))", "[\\+ a|\\+ b]": "'.'(\\+(a),\\+(b))", "['|'|'|']": "'.'('|','|')", "[',', a]": "'.'(',','.'(a,[]))", "[{a}]": "'.'({}(a),[])", "[-1]": "'.'(-1,[])",
	} {
		checkRead(t, src, want)
	}
	if x, _, _, _ := Query("[a, 1|X]"); !term.Same(x, comp(".", atom("a"), comp(".", integer(1), variable(0)))) {
		t.Errorf("got %s", text(x))
	}
	for _, marked := range []string{"¦|", "[¦|a]", "[¦,a]", "[a,¦]", "[a,¦|b]", "[a|¦]", "[a|b¦, c]", "[a|b¦|c]", "[a ¦b]", "[a¦)", "[a¦}", "[a|b¦)", "[¦)", "[¦}", "[¦", "[a¦", "[a,¦", "[a|¦", "[a|b¦", "[a¦.", "[a ¦:- b]", "[a|b ¦:- c]", "[¦:- a]", "[a|¦:- b]", "[a ¦'|' b]", "[]¦]"} {
		checkRefused(t, marked)
	}
}

// P6.1, P6.2: 16 arguments go, the 17th does not, whatever it is; elements of lists are not counted.
func TestManyArguments(t *testing.T) {
	for count := 1; count <= 16; count++ {
		args := strings.Repeat("a,", count-1) + "a"
		checkRead(t, "f("+args+")", "f("+args+")")
		checkRead(t, "-("+args+")", "-("+args+")")
		checkRead(t, "'A'(g("+args+"))", "'A'(g("+args+"))")
	}
	full := "f(" + strings.Repeat("X,", 16)
	for _, last := range []string{"a)", "(a, b))", "f(", ")", "", "1, b", ":- a)", "]", "| a)", "9223372036854775808)", "- = = a)"} {
		checkRefused(t, full+"¦"+last)
		checkRefused(t, "[g("+full+" ¦"+last)
	}
	checkRead(t, "f((a,a,a,a,a,a,a,a,a,a,a,a,a,a,a,a,a))", "f("+strings.Repeat("','(a,", 16)+"a"+strings.Repeat(")", 17))
	checkRead(t, "["+strings.Repeat("a,", 50)+"a]", strings.Repeat("'.'(a,", 51)+"[]"+strings.Repeat(")", 51))
}

// P6.1
func TestMinus(t *testing.T) {
	for src, want := range map[string]string{
		"-1": "-1", "-0": "0", "-007": "-7", "-9223372036854775807": "-9223372036854775807", "-9223372036854775808": "-9223372036854775808", "-0'a": "-97", "-0'''": "-39",
		"- 1": "-(1)", "-\n1": "-(1)", "- /**/1": "-(1)", "-%\n1": "-(1)", "- 0": "-(0)", "'-'1": "-(1)", "'-' 1": "-(1)", "-(1)": "-(1)", "- (1)": "-(1)", "(-)": "-", "- -1": "-(-1)", "- - 1": "-(-(1))", "-(-1)": "-(-1)", "-a": "-(a)", "-X": "-(_0)", "-[]": "-([])", "-{}": "-({})", "-[1]": "-('.'(1,[]))", "-{1}": "-({}(1))", "-f(1)": "-(f(1))", "-'1'": "-('1')", "-(1, 2)": "-(1,2)", "- (1, 2)": "-(','(1,2))",
		"a-1": "-(a,1)", "a -1": "-(a,1)", "a - 1": "-(a,1)", "a - -1": "-(a,-1)", "a- -1": "-(a,-1)", "a - - 1": "-(a,-(1))", "1-1": "-(1,1)", "1 -1": "-(1,1)", "-1-1": "-(-1,1)", "-1 - 1": "-(-1,1)", "- 1 - 1": "-(-(1),1)", "-1 * 2": "*(-1,2)", "- 1 * 2": "*(-(1),2)", "- a * b": "*(-(a),b)", "-(1) * 2": "*(-(1),2)", "2 * -1": "*(2,-1)", "2 * - 1": "*(2,-(1))", "a = -1": "=(a,-1)", "f(-1, - 1)": "f(-1,-(1))", "[-1|-2]": "'.'(-1,-2)", "{-1}": "{}(-1)", "(-1)": "-1", "- (-1)": "-(-1)", "\\+ -1": "\\+(-1)", ":- -1": ":-(-1)", "X-1": "-(_0,1)", "[]-1": "-([],1)", "{}-1": "-({},1)", "(a)-1": "-(a,1)", "f(a)-1": "-(f(a),1)", "'a'-1": "-(a,1)", "is -1": "-(is,1)", "+ -1": "-(+,1)",
		"\\+1": "\\+(1)", "\\+ 1": "\\+(1)", ":-1": ":-(1)", "?-1": "?-(1)",
	} {
		checkRead(t, src, want)
	}
	checkRefused(t, "¦9223372036854775808")
	checkRefused(t, "- ¦9223372036854775808")
	checkRefused(t, "-%\n¦9223372036854775808")
	checkRefused(t, "'-'¦9223372036854775808")
	checkRefused(t, "a -¦9223372036854775808")
	checkRefused(t, "f(¦9223372036854775808)")
	checkRead(t, "a - -9223372036854775808", "-(a,-9223372036854775808)")
	checkRefused(t, "--¦1")
	checkRefused(t, "+¦1")
	checkRefused(t, "-1 ¦1")
	if x, _, _, _ := Query("-9223372036854775808"); !term.Same(x, integer(math.MinInt64)) {
		t.Errorf("got %s", text(x))
	}
}

// P6.1, P6.2
func TestVariables(t *testing.T) {
	for src, want := range map[string]string{
		"f(X, Y, X)": "f(_0,_1,_0)", "f(_, _)": "f(_0,_1)", "f(X, _, X, _)": "f(_0,_1,_0,_2)", "f(_, X, _, X)": "f(_0,_1,_2,_1)", "f(_a, _a, __, __)": "f(_0,_0,_1,_1)", "f(X, x, 'X')": "f(_0,x,'X')", "f(X, Xx, XX, X1)": "f(_0,_1,_2,_3)", "X = Y, Y = X": "','(=(_0,_1),=(_1,_0))", "[Z, Y|X]": "'.'(_0,'.'(_1,_2))", "p(B, A) :- q(A, C), r(C, B)": ":-(p(_0,_1),','(q(_1,_2),r(_2,_0)))", "- X": "-(_0)", "{X, Y, X}": "{}(','(_0,','(_1,_0)))",
	} {
		checkRead(t, src, want)
	}
	for src, want := range map[string][]string{
		"a": nil, "X": {"X"}, "_": {"_"}, "f(X, _, _Y, X)": {"X", "_", "_Y"}, "f(_, _, _)": {"_", "_", "_"}, "f(Y, X, Y, Z).": {"Y", "X", "Z"}, "[A, B|C] = {D}.": {"A", "B", "C", "D"}, "f(__, _, __)": {"__", "_"},
	} {
		_, names, at, e := Query(src)
		if !slices.Equal(names, want) || at != 0 || e != api.OK {
			t.Errorf("Query(%q): got %q, %d, %d, want %q", src, names, at, e, want)
		}
	}
}
