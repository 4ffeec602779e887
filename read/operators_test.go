package read

import (
	"strings"
	"testing"

	"spinney/api"
	"spinney/ops"
)

// infixes and prefixes are the operators of the table by their names.
func infixes() map[string]api.Op { return operators(ops.Infix) }

func prefixes() map[string]api.Op { return operators(ops.Prefix) }

func operators(find func(string) (api.Op, bool)) map[string]api.Op {
	found := map[string]api.Op{}
	for _, name := range ops.Names() {
		if o, ok := find(name); ok {
			found[name] = o
		}
	}
	return found
}

// inQuotes is an operator's name as an atom in quotes.
func inQuotes(name string) string { return "'" + strings.ReplaceAll(name, `\`, `\\`) + "'" }

// checkEither holds that a source is read as one of two terms: the first, if that may be, or else the second, if that may be,
// and that else it is refused at its mark.
func checkEither(t *testing.T, marked string, first, second bool, one, other api.Term) {
	t.Helper()
	switch src, _ := unmark(t, marked); {
	case first:
		checkRead(t, src, text(one))
	case second:
		checkRead(t, src, text(other))
	default:
		checkRefused(t, marked)
	}
}

// P6.1, P6.2
func TestInfix(t *testing.T) {
	for name := range infixes() {
		want := text(comp(name, atom("a"), atom("b")))
		for _, src := range []string{"a " + name + " b", "a" + inQuotes(name) + "b", "(a)" + name + "(b)", "a " + name + "(b)", "a\n" + name + "%\nb"} {
			checkRead(t, src, want)
		}
		checkRefused(t, "a "+name+" ¦")
		checkRefused(t, "a "+name+" ¦)")
		checkRefused(t, "a "+name+" ¦| b")
		checkRefused(t, "a "+name+" b ¦c")
	}
	for _, name := range []string{"a", "#", "==>", "--", "->>", "mode", "Is", "1", "X", "!", "[]", "{}", "abs", "\\+", "?-", "|", "(", "'a b'", "'|'", "'.'", "'?-'", "''"} {
		checkRefused(t, "a ¦"+name+" b")
	}
}

// P6.1, P6.2: the second operator stands in the first one's right term, if it may; else the first one in the second's left
// term, if it may.
func TestInfixPairs(t *testing.T) {
	a, b, c := atom("a"), atom("b"), atom("c")
	for one, o := range infixes() {
		for two, q := range infixes() {
			checkEither(t, "a "+one+" b ¦"+two+" c", q.Pri <= ops.Right(o), o.Pri <= ops.Left(q), comp(one, a, comp(two, b, c)), comp(two, comp(one, a, b), c))
			checkRead(t, "(a "+one+" b) "+two+" c", text(comp(two, comp(one, a, b), c)))
			checkRead(t, "a "+one+" (b "+two+" c)", text(comp(one, a, comp(two, b, c))))
		}
	}
	for src, want := range map[string]string{
		"1 + 2 * 3": "+(1,*(2,3))", "1 * 2 + 3": "+(*(1,2),3)", "a - b - c": "-(-(a,b),c)", "a - (b - c)": "-(a,-(b,c))", "a, b, c": "','(a,','(b,c))", "(a, b), c": "','(','(a,b),c)", "a ; b -> c": ";(a,->(b,c))", "a -> b ; c": ";(->(a,b),c)", "a -> b -> c": "->(a,->(b,c))", "a ; b ; c": ";(a,;(b,c))", "X is Y mod 2 + 1": "is(_0,+(mod(_1,2),1))", "a rem b // c mod d": "mod(//(rem(a,b),c),d)", "a + b = c - d": "=(+(a,b),-(c,d))", "a :- b = c, d ; e -> f": ":-(a,;(','(=(b,c),d),->(e,f)))", "1 + 2 + 3 * 4 * 5 + 6": "+(+(+(1,2),*(*(3,4),5)),6)",
	} {
		checkRead(t, src, want)
	}
	for _, marked := range []string{"a = b ¦= c", "a = b ¦< c", "a is b ¦is c", "a :- b ¦:- c", "a == b ¦@< c, d", "a + b = c ¦=.. d", "(a = b ¦= c)"} {
		checkRefused(t, marked)
	}
}

// P6.1, P6.2
func TestPrefixAndInfix(t *testing.T) {
	a, b := atom("a"), atom("b")
	for one, o := range prefixes() {
		for two, q := range infixes() {
			left, right := comp(two, comp(one, a), b), comp(two, a, comp(one, b))
			checkEither(t, one+" a ¦"+two+" b", q.Pri <= ops.Right(o), o.Pri <= ops.Left(q), comp(one, comp(two, a, b)), left)
			checkRead(t, one+"(a) "+two+" b", text(left))
			checkRead(t, "("+one+" a) "+two+" b", text(left))
			checkEither(t, "a "+two+" ¦"+one+" b", o.Pri <= ops.Right(q), false, right, right)
			checkRead(t, "a "+two+" "+one+"(b)", text(right))
			checkRead(t, "a "+two+" ("+one+" b)", text(right))
		}
	}
	for src, want := range map[string]string{
		"- a + b": "+(-(a),b)", "- a = b": "=(-(a),b)", "\\+ a = b": "\\+(=(a,b))", "\\+ a, b": "','(\\+(a),b)", ":- a, b": ":-(','(a,b))", "?- a ; b": "?-(;(a,b))", "a :- \\+ b, c": ":-(a,','(\\+(b),c))", "a * - b": "*(a,-(b))", "\\+ a :- b": ":-(\\+(a),b)",
	} {
		checkRead(t, src, want)
	}
	for _, marked := range []string{":- a ¦:- b", "?- a ¦:- b", "a :- ¦:- b", "a :- ¦?- b", "a = ¦\\+ b", "a, ¦:- b", "a + ¦\\+ b"} {
		checkRefused(t, marked)
	}
}

// P6.1, P6.2
func TestPrefixPairs(t *testing.T) {
	a := atom("a")
	for one, o := range prefixes() {
		for two, q := range prefixes() {
			both := comp(one, comp(two, a))
			checkEither(t, one+" ¦"+two+" a", q.Pri <= ops.Right(o), false, both, both)
			checkEither(t, one+" ¦"+inQuotes(two)+" a", q.Pri <= ops.Right(o), false, both, both)
			checkRead(t, one+" "+two+"(a)", text(both))
			checkRead(t, one+" ("+two+" a)", text(both))
			// With nothing behind it the second one is an atom, which has no priority that were too great.
			checkRead(t, one+" "+two, text(comp(one, atom(two))))
		}
	}
	for src, want := range map[string]string{"- - a": "-(-(a))", "\\+ \\+ a": "\\+(\\+(a))", "\\+ - a": "\\+(-(a))", ":- \\+ - a": ":-(\\+(-(a)))", "- - = a": "=(-(-),a)"} {
		checkRead(t, src, want)
	}
	for _, marked := range []string{":- ¦:- a", ":- ¦?- a", "- ¦\\+ a", "\\+ ¦:- a", "- ¦:- a"} {
		checkRefused(t, marked)
	}
}

// P6.1: a prefix operator is one of what stands behind it, or an atom.
func TestBehindPrefix(t *testing.T) {
	for name := range prefixes() {
		p, w := name, text(atom(name))
		for src, want := range map[string]string{
			p: w, "(" + p + ")": w, "( " + p + " )": w, "[" + p + "]": "'.'(" + w + ",[])", "[" + p + "|" + p + "]": "'.'(" + w + "," + w + ")", "[" + p + ",a]": "'.'(" + w + ",'.'(a,[]))", "{" + p + "}": "{}(" + w + ")", "f(" + p + ")": "f(" + w + ")", "f(" + p + "," + p + ")": "f(" + w + "," + w + ")", p + ", a": "','(" + w + ",a)", "a = " + p: "=(a," + w + ")", inQuotes(p): w,
			p + " a": w + "(a)", p + " 'a b'": w + "('a b')", p + " #": w + "(#)", p + " !": w + "(!)", p + " X": w + "(_0)", p + " 1": w + "(1)", p + " (a)": w + "(a)", p + "(a)": w + "(a)", p + " (a, b)": w + "(','(a,b))", p + "(a, b)": w + "(a,b)", p + " [a]": w + "('.'(a,[]))", p + "[]": w + "([])", p + " {a}": w + "({}(a))", p + "{}": w + "({})", p + " f(a)": w + "(f(a))", p + " (" + p + ")": w + "(" + w + ")", inQuotes(p) + " a": w + "(a)",
			p + " '|'": w + "('|')", p + " ')'": w + "(')')", p + " ']'": w + "(']')", p + " '}'": w + "('}')", p + " '.'": w + "('.')",
		} {
			checkRead(t, src, want)
		}
		checkRefused(t, "("+p+"¦")
		checkRefused(t, p+" ¦)")
		checkRefused(t, p+"¦]")
		checkRefused(t, p+"¦}")
		checkRefused(t, p+" ¦| a")
		checkRefused(t, p+", ¦")
		checkRefused(t, p+" (¦)")
		checkRefused(t, p+"(¦)")
	}
}

// P6.1, P6.2: a prefix operator and an infix one behind it.
func TestInfixBehindPrefix(t *testing.T) {
	a := atom("a")
	for one, o := range prefixes() {
		for two, q := range infixes() {
			between, inside := comp(two, atom(one), a), comp(one, comp(two, a))
			checkRead(t, one+" "+inQuotes(two)+"(a)", text(inside))
			if two != "," {
				checkRead(t, one+" "+two+"(a)", text(inside))
			}
			if r, ok := ops.Prefix(two); ok {
				checkEither(t, one+" ¦"+two+" a", r.Pri <= ops.Right(o), false, inside, inside)
				continue
			}
			checkRead(t, one+" "+two+" a", text(between))
			checkRead(t, one+" "+inQuotes(two)+" a", text(between))
			checkRead(t, one+" "+two+" (a)", text(between))
			checkRefused(t, one+" "+two+" ¦")
			if q.Pri <= 999 {
				checkRead(t, "f("+one+" "+two+" a)", text(comp("f", between)))
			}
		}
	}
}

// P6.1, P6.2: where a term within 999 stands, and where one within 1200.
func TestPrioritiesOfPlaces(t *testing.T) {
	a, b, c := atom("a"), atom("b"), atom("c")
	for name, o := range infixes() {
		x := comp(name, a, b)
		checkRead(t, "(a "+name+" b)", text(x))
		checkRead(t, "{a "+name+" b}", text(comp("{}", x)))
		checkRead(t, "f((a "+name+" b))", text(comp("f", x)))
		if name == "," {
			continue
		}
		fits := o.Pri <= 999
		checkEither(t, "f(a ¦"+name+" b)", fits, false, comp("f", x), x)
		checkEither(t, "f(c, a ¦"+name+" b)", fits, false, comp("f", c, x), x)
		checkEither(t, "[a ¦"+name+" b]", fits, false, comp(".", x, atom("[]")), x)
		checkEither(t, "[c, a ¦"+name+" b|c]", fits, false, comp(".", c, comp(".", x, c)), x)
		checkEither(t, "[c|a ¦"+name+" b]", fits, false, comp(".", c, x), x)
	}
	for name, o := range prefixes() {
		x := comp(name, a)
		checkRead(t, "("+name+" a)", text(x))
		checkRead(t, "{"+name+" a}", text(comp("{}", x)))
		fits := o.Pri <= 999
		checkEither(t, "f(¦"+name+" a)", fits, false, comp("f", x), x)
		checkEither(t, "f(c, ¦"+name+" a)", fits, false, comp("f", c, x), x)
		checkEither(t, "[¦"+name+" a]", fits, false, comp(".", x, atom("[]")), x)
		checkEither(t, "[c, ¦"+name+" a|c]", fits, false, comp(".", c, comp(".", x, c)), x)
		checkEither(t, "[c| ¦"+name+" a]", fits, false, comp(".", c, x), x)
	}
	// A comma in quotes is an operator, but none that stands between arguments or elements.
	checkRead(t, "a ',' b", "','(a,b)")
	checkRefused(t, "f(a ¦',' b)")
	checkRefused(t, "[a ¦',' b]")
	checkRefused(t, "[a ¦'|' b]")
}
