package read

import (
	"slices"
	"strconv"
	"strings"
	"testing"

	"spinney/api"
	"spinney/term"
)

// texts are those of a program's terms.
func texts(l []api.Term) []string {
	var out []string
	for _, x := range l {
		out = append(out, text(x))
	}
	return out
}

// checkTerms holds that src is a program of the terms of these texts.
func checkTerms(t *testing.T, src string, want ...string) {
	t.Helper()
	if l, at, e := Program(src); !slices.Equal(texts(l), want) || at != 0 || e != api.OK {
		t.Errorf("Program(%q): got %q, %d, %d, want %q", src, texts(l), at, e, want)
	}
}

// P6.1, P6.2
func TestPrograms(t *testing.T) {
	for _, src := range []string{"", " \n", "% nothing", "/* . */"} {
		checkTerms(t, src)
	}
	for _, src := range []string{"a.\nb.", "a. b. ", " a . b%\n.", "a.%.\nb."} {
		checkTerms(t, src, "a", "b")
	}
	checkTerms(t, "a. a. a.", "a", "a", "a")
	checkTerms(t, "'.'. :- . ?- .", "'.'", ":-", "?-")
	checkTerms(t, "f(X, Y).\ng(Y) :- f(Y, X). ", "f(_0,_1)", ":-(g(_0),f(_0,_1))")
	checkTerms(t, "X. Y. _. f(_, Y, X).", "_0", "_0", "_0", "f(_0,_1,_2)")
	checkTerms(t, "a :- b, c. :- d. -1. - . [].", ":-(a,','(b,c))", ":-(d)", "-1", "-", "[]")
	for _, marked := range []string{"a¦", "a. b¦", "a ¦b.", "a¦.b.", "¦.", "¦. a.", "a. ¦. b.", "a. b. c ¦d.", "a. b = ¦. c.", "a. f(¦. b.", "a. (b¦. c.", "a.\n% b.\n c¦", "a. ¦) b.", "a. b = c ¦= d. e.", "a ¦b. c d."} {
		src, place := unmark(t, marked)
		checkProgram(t, src, place, api.ErrSyntax)
	}
}

// P6.1, P6.2
func TestQueries(t *testing.T) {
	for _, end := range []string{"", ".", " .", ". ", "\n.\n", ".%", " % .", "/**/ ."} {
		if x, names, at, e := Query("f(X)" + end); text(x) != "f(_0)" || !slices.Equal(names, []string{"X"}) || at != 0 || e != api.OK {
			t.Errorf("with %q behind it: got %s, %q, %d, %d", end, text(x), names, at, e)
		}
	}
	for _, marked := range []string{"¦", " % nothing\n¦", "¦.", "f(X). ¦.", "f(X) ¦f(X)", "f(X). ¦f(X).", "f(X). ¦f(", "f(X).%\n¦)", "f(X)¦.a"} {
		src, place := unmark(t, marked)
		checkQuery(t, src, place, api.ErrSyntax)
	}
}

// P6.2: the first token that does not go, wherever one is wanted.
func TestRefused(t *testing.T) {
	for _, marked := range []string{
		"a¦)", "a¦]", "a¦}", "a ¦[b]", "a ¦{b}", "a ¦X", "a ¦1", "a ¦'b'", "a ¦!", "a¦| b", "1 ¦2", "X ¦Y", "[] ¦[]", "{} ¦a", "'a' ¦'b'", "! ¦!", "= ¦a", "a = b ¦= c", "a = b ¦c",
		"¦)", "¦]", "¦}", "¦, a", "¦|", "(¦", "(¦)", "(a¦", "(a¦]", "(a¦}", "(a ¦b)", "(a¦| b)", "((a)¦", "(¦, a)", "(a,¦)",
		"f(¦", "f(¦)", "f(a¦", "f(a,¦", "f(a,¦)", "f(a¦]", "f(a ¦b)", "f(a¦| b)", "f(¦, a)", "f(a,¦, b)", "f(a)¦)", "f(¦]", "'f'(¦)", "+(¦)", "-(¦)", "f(g(¦)", "f(g(a)¦",
		"{¦", "{¦)", "{¦]", "{a¦", "{a¦)", "{a¦]", "{a ¦b}", "{a¦| b}", "{¦, a}", "{a,¦}",
		"a,¦", "a, ¦)", "a =¦", "a = ¦]", "a, b ¦c, d", "a = ¦| b", "a = f(¦)", "a - -¦)", "\\+ [¦)", "a ¦b ) c d",
	} {
		checkRefused(t, marked)
	}
}

// variables are so many of them, from the first on, within a term that is not deep.
func variables(count int, name func(n int) string) string {
	var groups []string
	for n := 1; n <= count; {
		var group []string
		for ; n <= count && len(group) < api.MaxArity; n++ {
			group = append(group, name(n))
		}
		groups = append(groups, "g("+strings.Join(group, ",")+")")
	}
	return "f(" + strings.Join(groups, ",") + ")"
}

func named(n int) string { return "V" + strconv.Itoa(n) }

func nameless(int) string { return "_" }

// mixed are by turns variables that have a name and those that have none.
func mixed(n int) string {
	if n%2 == 0 {
		return "_"
	}
	return named(n)
}

// P6.1, P6.2
func TestManyVariables(t *testing.T) {
	for _, name := range []func(int) string{named, nameless, mixed} {
		full := variables(200, name)
		x, names, at, e := Query(full)
		if vars := term.Vars(x); len(vars) != 200 || vars[199] != 199 || at != 0 || e != api.OK {
			t.Errorf("Query(%q): got %s, %d, %d", full, text(x), at, e)
		}
		for i := range 200 {
			if len(names) != 200 || names[i] != name(i+1) {
				t.Fatalf("Query(%q): got %q", full, names)
			}
		}
		for _, last := range []string{"_", "New", "_1", "New(a)", "New, f(", "New b", "_ :- :- a"} {
			checkRefused(t, full+" = ¦"+last)
			checkRefused(t, "[a|"+full+" = f( ¦"+last)
		}
	}
	full := variables(200, named)
	if _, names, at, e := Query(full + " = [V1, V200|V7]"); len(names) != 200 || at != 0 || e != api.OK {
		t.Errorf("known variables again: got %q, %d, %d", names, at, e)
	}
	if l, at, e := Program(full + ". " + full + ". f(_)."); len(l) != 3 || at != 0 || e != api.OK {
		t.Errorf("in each of three terms: got %d, %d, %d", len(l), at, e)
	}
	src, place := unmark(t, full+". "+full+" = ¦_. f(_).")
	checkProgram(t, src, place, api.ErrSyntax)
}

// deep are terms of a depth, of all kinds of terms that may stand in others.
func deep(depth int) []string {
	n := depth - 1
	return []string{
		strings.Repeat("s(", n) + "x" + strings.Repeat(")", n),
		"f(x, " + strings.Repeat("s(", n-1) + "x" + strings.Repeat(")", n-1) + ", x)",
		strings.Repeat("{", n) + "x" + strings.Repeat("}", n),
		strings.Repeat("[", n) + "x" + strings.Repeat("]", n),
		"[" + strings.Repeat("x, ", n-1) + "x]",
		"[" + strings.Repeat("x, ", n-1) + "x|X]",
		strings.Repeat("[x|", n) + "x" + strings.Repeat("]", n),
		strings.Repeat("- ", n) + "x",
		strings.Repeat("- ", n) + "-",
		"(x" + strings.Repeat(", x", n) + ")",
		"x" + strings.Repeat(" - x", n),
		strings.Repeat("(x = ", n) + "x" + strings.Repeat(")", n),
		"((" + strings.Repeat("s((", n) + "x" + strings.Repeat("))", n) + "))",
	}
}

// P6.2
func TestDepth(t *testing.T) {
	for _, src := range deep(60) {
		if x, _, at, e := Query(src); term.Deep(x) != 60 || at != 0 || e != api.OK {
			t.Errorf("Query(%q): got %s, %d, %d", src, text(x), at, e)
		}
		if l, at, e := Program(src + " . " + src + " ."); len(l) != 2 || at != 0 || e != api.OK {
			t.Errorf("Program(%q): got %d terms, %d, %d", src, len(l), at, e)
		}
	}
	for _, src := range deep(61) {
		for _, ahead := range []string{"", "  ", "% (\n", "\n/* a */ "} {
			place := len(ahead)
			checkQuery(t, ahead+src, place, api.ErrDeep)
			checkQuery(t, ahead+src+" . ", place, api.ErrDeep)
			checkProgram(t, ahead+src+" .", place, api.ErrDeep)
			checkProgram(t, "a. f(X). "+ahead+src+" . b.", place+len("a. f(X). "), api.ErrDeep)
		}
	}
}

// P6.2: a term is looked at when its end has been read.
func TestDepthAndOtherFaults(t *testing.T) {
	for _, src := range deep(61) {
		checkRefused(t, "f("+src+"¦")
		checkRefused(t, "f("+src+", ¦)")
		checkRefused(t, "["+src+"¦)")
		checkProgram(t, src, len(src), api.ErrSyntax)
		checkProgram(t, src+" ).", len(src)+1, api.ErrSyntax)
		checkProgram(t, src+" . b c.", 0, api.ErrDeep)
		checkProgram(t, src+" . "+src, 0, api.ErrDeep)
		checkProgram(t, "a b. "+src+" .", len("a "), api.ErrSyntax)
		checkQuery(t, src+" . b", 0, api.ErrDeep)
		checkQuery(t, src+" . \"", len(src)+3, api.ErrToken)
	}
}

// P6.1: what can't be cut is told ahead of all else.
func TestTokenErrors(t *testing.T) {
	for _, marked := range []string{
		"¦\"", "a ¦\"", "a b ) ¦\" \"", ". . ¦é", "a. ¦/* b.", "a. f(¦'b).", "a = ¦99999999999999999999", "¦9223372036854775809", "-¦9223372036854775809", "f(a, ¦" + strings.Repeat("b", 256) + ")", "¦'" + strings.Repeat("b", 256) + "'", "¦\xff", "a.\n¦`",
	} {
		src, place := unmark(t, marked)
		checkQuery(t, src, place, api.ErrToken)
		checkProgram(t, src, place, api.ErrToken)
	}
	for _, src := range []string{strings.Repeat(" ", 4097), "a." + strings.Repeat(" ", 4095), "\"" + strings.Repeat("(", 4096), strings.Repeat("a. ", 5000)} {
		checkQuery(t, src, 0, api.ErrLong)
		checkProgram(t, src, 0, api.ErrLong)
	}
	checkTerms(t, "a."+strings.Repeat(" ", 4094), "a")
	checkTerms(t, "'"+strings.Repeat("b", 255)+"'.", strings.Repeat("b", 255))
}

// P6.1, P6.2: as long as a source may be.
func TestLongSources(t *testing.T) {
	for _, piece := range []string{"(", "[", "{", "f(", "-(", "- (", "[[", "({"} {
		count := 4096 / len(piece)
		checkQuery(t, strings.Repeat(piece, count), count*len(piece), api.ErrSyntax)
		checkProgram(t, strings.Repeat(piece, count), count*len(piece), api.ErrSyntax)
	}
	for _, src := range []string{strings.Repeat("- ", 2040) + "a", strings.Repeat("\\+ ", 1300) + "a", "a" + strings.Repeat(",a", 2040), "a" + strings.Repeat("-a", 2040), "[a" + strings.Repeat(",a", 2040) + "]", strings.Repeat("[a|", 1000) + "[]" + strings.Repeat("]", 1000), strings.Repeat("f(", 1300) + "a" + strings.Repeat(")", 1300)} {
		checkQuery(t, src, 0, api.ErrDeep)
		checkProgram(t, src+" .", 0, api.ErrDeep)
	}
	checkRead(t, strings.Repeat("(", 2040)+"a"+strings.Repeat(")", 2040), "a")
	checkTerms(t, strings.Repeat("a.\n", 1365), strings.Split(strings.Repeat("a", 1365), "")...)
}
