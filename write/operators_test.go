package write

import (
	"testing"

	"spinney/api"
	"spinney/ops"
)

// between are the names of the infix operators, of each type and priority.
func between() []string {
	var out []string
	for _, name := range ops.Names() {
		if _, ok := ops.Infix(name); ok {
			out = append(out, name)
		}
	}
	return out
}

// sign is how an infix operator stands between its operands.
func sign(name string) string {
	if name == "," {
		return ","
	}
	return " " + name + " "
}

// P7.1
func TestInfix(t *testing.T) {
	for _, name := range between() {
		checkWritten(t, f(name, a("a"), a("b")), "a"+sign(name)+"b")
		checkWritten(t, f(name, v(0), i(-1)), "_0"+sign(name)+"-1")
		checkWritten(t, f(name, i(-1), a("A b")), "-1"+sign(name)+"'A b'")
		checkWritten(t, f(name, f("f", a("a")), list(a("[]"), a("a"))), "f(a)"+sign(name)+"[a]")
		checkWritten(t, f(name, f("{}", a("a")), f("-", i(1))), "{a}"+sign(name)+"-(1)")
		checkWritten(t, f(name, a("[]"), a("{}")), "[]"+sign(name)+"{}")
		checkWritten(t, f(name, a("#"), a("!")), "#"+sign(name)+"!")
	}
}

// P7.1: Atoms that are operators stand in brackets as operands, and nowhere else.
func TestOperatorsAsOperands(t *testing.T) {
	for _, name := range ops.Names() {
		text := name
		if name == "," {
			text = "','"
		}
		for _, o := range between() {
			checkWritten(t, f(o, a(name), a("b")), "("+text+")"+sign(o)+"b")
			checkWritten(t, f(o, a("a"), a(name)), "a"+sign(o)+"("+text+")")
			checkWritten(t, f(o, a(name), a(name)), "("+text+")"+sign(o)+"("+text+")")
			checkWritten(t, f(o, f("f", a(name)), f(name, a("a"))), "f("+text+")"+sign(o)+text+"(a)")
		}
		checkWritten(t, a(name), text)
		checkWritten(t, f("f", a(name), a(name)), "f("+text+","+text+")")
		checkWritten(t, f(name, a(name)), text+"("+text+")")
		checkWritten(t, f("{}", a(name)), "{"+text+"}")
		checkWritten(t, list(a(name), a(name), a(name)), "["+text+","+text+"|"+text+"]")
	}
}

// bracketed is a text, in brackets where they are wanted.
func bracketed(text string, wanted bool) string {
	if wanted {
		return "(" + text + ")"
	}
	return text
}

// P7.1: brackets stand just where a priority is above the one that it stands within: every operator at both sides of every
// other one, and where no operands stand.
func TestBrackets(t *testing.T) {
	for _, name := range between() {
		o, _ := ops.Infix(name)
		inner, text := f(name, a("a"), a("b")), "a"+sign(name)+"b"
		for _, outer := range between() {
			q, _ := ops.Infix(outer)
			checkWritten(t, f(outer, inner, a("c")), bracketed(text, o.Pri > ops.Left(q))+sign(outer)+"c")
			checkWritten(t, f(outer, a("c"), inner), "c"+sign(outer)+bracketed(text, o.Pri > ops.Right(q)))
		}
		checkWritten(t, inner, text)
		checkWritten(t, f("{}", inner), "{"+text+"}")
		within := bracketed(text, o.Pri > 999)
		checkWritten(t, f("f", inner, inner), "f("+within+","+within+")")
		checkWritten(t, f("-", inner), "-("+within+")")
		checkWritten(t, list(inner, inner, inner), "["+within+","+within+"|"+within+"]")
	}
}

// P7.1: the same by hand, of each type: the priority below, the same one, and the one above.
func TestBracketsByHand(t *testing.T) {
	x, y, z := a("x"), a("y"), a("z")
	both := func(one, other string) []api.Term {
		return []api.Term{f(one, f(other, x, y), z), f(one, x, f(other, y, z))}
	}
	for _, c := range []struct{ one, other, left, right string }{
		{"-", "*", "x * y - z", "x - y * z"}, {"-", "-", "x - y - z", "x - (y - z)"}, {"-", "+", "x + y - z", "x - (y + z)"}, {"-", "=", "(x = y) - z", "x - (y = z)"},
		{"*", "//", "x // y * z", "x * (y // z)"}, {"*", "-", "(x - y) * z", "x * (y - z)"}, {"rem", "mod", "x mod y rem z", "x rem (y mod z)"},
		{"=", "+", "x + y = z", "x = y + z"}, {"=", "=", "(x = y) = z", "x = (y = z)"}, {"=", "is", "(x is y) = z", "x = (y is z)"}, {"=", ",", "(x,y) = z", "x = (y,z)"},
		{",", "=", "x = y,z", "x,y = z"}, {",", ",", "(x,y),z", "x,y,z"}, {",", "->", "(x -> y),z", "x,(y -> z)"},
		{"->", ",", "x,y -> z", "x -> y,z"}, {"->", "->", "(x -> y) -> z", "x -> y -> z"}, {"->", ";", "(x ; y) -> z", "x -> (y ; z)"},
		{";", "->", "x -> y ; z", "x ; y -> z"}, {";", ";", "(x ; y) ; z", "x ; y ; z"}, {";", ":-", "(x :- y) ; z", "x ; (y :- z)"},
		{":-", ";", "x ; y :- z", "x :- y ; z"}, {":-", ":-", "(x :- y) :- z", "x :- (y :- z)"},
	} {
		l := both(c.one, c.other)
		checkWritten(t, l[0], c.left)
		checkWritten(t, l[1], c.right)
	}
	checkAll(t, []written{
		{f("=", f("=", f("=", x, y), z), x), "((x = y) = z) = x"},
		{f("*", f("*", f("+", x, y), z), f("*", x, f("+", y, z))), "(x + y) * z * (x * (y + z))"},
		{f(":-", x, f(",", f(";", x, f("->", y, z)), f(",", y, z))), "x :- (x ; y -> z),y,z"},
		{f("-", f("-", x), f("-", f("-", x, y))), "-(x) - -(x - y)"},
		{f("is", v(0), f("-", v(1), i(-1))), "_0 is _1 - -1"},
		{f("f", f("-", f(",", x, y), z)), "f((x,y) - z)"},
		{f(`\+`, f(`\+`, f("=", x, y))), `\+(\+(x = y))`},
	})
}
