package write

import (
	"math"
	"math/rand"
	"slices"
	"strconv"
	"strings"
	"testing"

	"spinney/api"
	"spinney/char"
	"spinney/ops"
	"spinney/read"
	"spinney/term"
)

// words is a term's text within a priority by the chapter's words, one by one, and by another way than the package: texts are
// put together of texts.
func words(x api.Term, p int) string {
	switch {
	case x.Kind == api.Var:
		return "_" + strconv.FormatInt(x.N, 10)
	case x.Kind == api.Int:
		return strconv.FormatInt(x.N, 10)
	case x.Kind == api.Atom:
		return char.Write(x.Name)
	case x.Name == "." && len(x.Args) == 2:
		elements, end := unchained(x)
		if end.Kind == api.Atom && end.Name == "[]" {
			return "[" + joined(elements) + "]"
		}
		return "[" + joined(elements) + "|" + words(end, 999) + "]"
	case x.Name == "{}" && len(x.Args) == 1:
		return "{" + words(x.Args[0], 1200) + "}"
	}
	if o, ok := ops.Infix(x.Name); ok && len(x.Args) == 2 {
		text := operand(x.Args[0], ops.Left(o)) + sign(x.Name) + operand(x.Args[1], ops.Right(o))
		return bracketed(text, o.Pri > p)
	}
	if x.Name == "[]" || x.Name == "{}" {
		return "'" + x.Name + "'(" + joined(x.Args) + ")"
	}
	return char.Write(x.Name) + "(" + joined(x.Args) + ")"
}

// unchained are the elements of a list, and its end.
func unchained(x api.Term) ([]api.Term, api.Term) {
	if x.Kind != api.Comp || x.Name != "." || len(x.Args) != 2 {
		return nil, x
	}
	elements, end := unchained(x.Args[1])
	return slices.Insert(elements, 0, x.Args[0]), end
}

func joined(l []api.Term) string {
	var out []string
	for _, x := range l {
		out = append(out, words(x, 999))
	}
	return strings.Join(out, ",")
}

func operand(x api.Term, p int) string {
	return bracketed(words(x, p), x.Kind == api.Atom && slices.Contains(ops.Names(), x.Name))
}

// checkBack holds that a term is written by the words, that it is read back as a variant, by Query and by Program, and that
// what was read is written, and read, as the same again.
func checkBack(t *testing.T, x api.Term) {
	t.Helper()
	want := words(x, 1200)
	src, e := Clause(x)
	if src != want+ending(want) || e != api.OK {
		t.Fatalf("Clause: got %q, %d, want %q and its end", src, e, want)
	}
	if text, e := Text(x); text != want || e != api.OK {
		t.Fatalf("Text: got %q, %d, want %q", text, e, want)
	}
	y, _, at, e := read.Query(src)
	if e != api.OK || !term.Variant(x, y) {
		t.Fatalf("%q is read as something else, %d at %d", src, e, at)
	}
	l, at, e := read.Program(src)
	if len(l) != 1 || e != api.OK || !term.Same(l[0], y) {
		t.Fatalf("%q is another program of %d, %d at %d", src, len(l), e, at)
	}
	checkAgain(t, y)
}

// checkAgain holds that what was read is read as the same, when it has been written.
func checkAgain(t *testing.T, x api.Term) {
	t.Helper()
	src, e := Clause(x)
	if e != api.OK {
		t.Fatalf("what was read can't be written: %d", e)
	}
	y, _, at, e := read.Query(src)
	if e != api.OK || !term.Same(x, y) {
		t.Fatalf("%q is not the same again, %d at %d", src, e, at)
	}
	if again, e := Clause(y); again != src || e != api.OK {
		t.Fatalf("%q is written as %q again, %d", src, again, e)
	}
}

// leaves are terms without Args of each kind, those that look like something else in the wrong place among them.
func leaves() []api.Term {
	return []api.Term{v(0), v(1), i(0), i(-1), a("a"), a("-"), a("="), a(":-"), a(","), a("|"), a("[]"), a("{}"), a("."), a("#"), a("A"), a("mod"), a(`\+`)}
}

// grown are Comps of each kind of these.
func grown(l []api.Term) []api.Term {
	var out []api.Term
	for _, x := range l {
		for _, name := range []string{"f", "-", "+", `\+`, ":-", ",", ".", "{}", "[]", "A", "#"} {
			out = append(out, f(name, x))
		}
		for _, y := range l {
			for _, name := range []string{"f", "-", "*", "=", ",", "->", ";", ":-", "mod", ".", "{}", "[]", "?-"} {
				out = append(out, f(name, x, y))
			}
		}
	}
	return out
}

// P7.1, P7.2: all small terms, and those of a few of the leaves within others.
func TestSmallTerms(t *testing.T) {
	for _, x := range slices.Concat(leaves(), grown(leaves())) {
		checkBack(t, x)
	}
	for _, x := range grown([]api.Term{v(0), i(-1), a("a"), a("-"), a("="), a(","), a("[]")}) {
		for _, name := range []string{"f", "-", "{}", "[]"} {
			checkBack(t, f(name, x))
		}
		for _, name := range []string{"f", "-", "=", ",", ":-", "."} {
			for _, y := range []api.Term{v(1), i(-1), a("-"), a("[]")} {
				checkBack(t, f(name, x, y))
				checkBack(t, f(name, y, x))
			}
		}
	}
}

// P7.1, P7.2: every operator with every other one below it, at both sides and twice.
func TestOperatorsAreReadBack(t *testing.T) {
	for _, outer := range ops.Names() {
		for _, inner := range ops.Names() {
			for _, x := range []api.Term{a(inner), f(inner, a("a")), f(inner, a("a"), i(-1)), f(inner, a(inner), a(inner)), f(inner, f(inner, v(0), v(1)), f(inner, v(1), v(0)))} {
				checkBack(t, f(outer, x))
				checkBack(t, f(outer, x, a("b")))
				checkBack(t, f(outer, a("b"), x))
				checkBack(t, f(outer, x, x))
				checkBack(t, f(outer, x, x, x))
			}
		}
	}
}

// names are of all kinds: operators, bare ones and such as need quotes.
func names() []string {
	return append(ops.Names(), "a", "f", "f", "[]", "{}", "{}", ".", ".", ".", "!", "|", "", "#", "-->", "/*", "A", "it's", `\`, "a b", "\n", "\r", "\x01", "é", "[", "0", "_")
}

// some is some term of at most that depth.
func some(chance *rand.Rand, depth int) api.Term {
	l := names()
	name := l[chance.Intn(len(l))]
	count := 0
	if depth > 1 && chance.Intn(4) > 0 {
		count = []int{1, 2, 2, 2, 3}[chance.Intn(5)]
	}
	if count > 0 {
		x := f(name)
		for range count {
			x.Args = append(x.Args, some(chance, depth-1))
		}
		return x
	}
	numbers := []int64{0, 1, 2, 77, math.MaxInt64}
	switch n := numbers[chance.Intn(len(numbers))]; chance.Intn(5) {
	case 0:
		return v(n)
	case 1:
		return i(n)
	case 2:
		return i(-n - 1)
	}
	return a(name)
}

// P7.1, P7.2: and many greater ones.
func TestManyTerms(t *testing.T) {
	chance := rand.New(rand.NewSource(7))
	for range 10000 {
		x := some(chance, 1+chance.Intn(7))
		if len(words(x, 1200)) < api.MaxText-2 {
			checkBack(t, x)
		}
	}
}

// varied is a term of so many Vars.
func varied(count int64) api.Term {
	var vars, rows []api.Term
	for n := range count {
		vars = append(vars, v(3*n))
	}
	for row := range slices.Chunk(vars, 16) {
		rows = append(rows, f("row", row...))
	}
	return f("f", rows...)
}

// P7.2: as long, as deep, with as many Args and Vars, and of names as long as it may be read.
func TestGreatTerms(t *testing.T) {
	long := strings.Repeat("é", 127)
	for _, x := range []api.Term{
		varied(200), a(long), f(long, a(long)), f("=", a(long), v(0)), f(strings.Repeat("+", 255), a(strings.Repeat("-", 255))), a(strings.Repeat("\x1f", 255)), a(strings.Repeat("'", 255)), a(strings.Repeat("x", 255)),
		under(59, a("-")), list(v(0), slices.Repeat([]api.Term{a("-")}, 59)...), list(a("[]"), slices.Repeat([]api.Term{v(1)}, 59)...),
	} {
		checkBack(t, x)
	}
}

// sized is a term whose clause has so many bytes, of which 20 are not its Args' names.
func sized(bytes int) api.Term {
	x := f("f", slices.Repeat([]api.Term{a("x")}, 16)...)
	left := bytes - 20 - 16
	for k := range x.Args {
		more := min(left, 254)
		x.Args[k].Name += strings.Repeat("x", more)
		left -= more
	}
	return x
}

// P7.1, P7.2: what is too long for a source, or has too many Vars, is written, but not read.
func TestLongTexts(t *testing.T) {
	for bytes := 4000; bytes <= api.MaxText; bytes++ {
		checkBack(t, sized(bytes))
	}
	src, e := Clause(sized(api.MaxText + 1))
	if len(src) != api.MaxText+1 || e != api.OK {
		t.Errorf("got %d bytes, %d", len(src), e)
	}
	if _, _, _, e := read.Query(src); e != api.ErrLong {
		t.Errorf("reading %d bytes: got %d", len(src), e)
	}
	many := varied(201)
	checkWritten(t, many, words(many, 1200))
	if _, _, _, e := read.Query(words(many, 1200)); e != api.ErrSyntax {
		t.Errorf("reading 201 Vars: got %d", e)
	}
	wide := a("-")
	for range 4 {
		wide = f("f", slices.Repeat([]api.Term{wide}, 16)...)
	}
	checkWritten(t, wide, words(wide, 1200))
}

// P7.2: many clauses, one behind the other, are the program of all.
func TestPrograms(t *testing.T) {
	var src strings.Builder
	var want []api.Term
	for _, x := range slices.Concat(leaves(), []api.Term{f(":-", f("p", v(0)), f(",", f("q", v(1), v(0)), a("!"))), f(":-", a("a")), f("=", a("a"), a("#")), list(v(0), a("-"))}) {
		text, _ := Clause(x)
		src.WriteString(text)
		want = append(want, x)
	}
	got, at, e := read.Program(src.String())
	if !slices.EqualFunc(got, want, term.Variant) || e != api.OK {
		t.Errorf("got %d terms, %d at %d of %q", len(got), e, at, src.String())
	}
}

// P7.2: what is read of any source is the same, when it is written and read again.
func TestSourcesAgain(t *testing.T) {
	for _, src := range []string{"a :- b, c.", "X = - 1", "X = -1", "[a|T]", "- = x", "f(X, _, Y, _, X)", "\\+ \\+ a, - - X", "a:-b;c->d", "[(a:-b)|(:-)]", "{a,b;c}", "'\\x41\\'('it''s', 0'a, -0''', 007)", "- (1)", "(((a)))", "?- p(X), q", "a=b, [X|Y]=[Y,Z|X]", "mod mod mod", "','(',', ',')", "- - - a - - 1", "[[]|{}]"} {
		x, _, at, e := read.Query(src)
		if e != api.OK {
			t.Errorf("%q: %d at %d", src, e, at)
			continue
		}
		checkAgain(t, x)
	}
	chance, known := rand.New(rand.NewSource(72)), 0
	pieces := []string{"a", "b ", "f(", "(", " (", ")", ")", "[", "]", "{", "}", ",", "|", "X", " Y", "_ ", "1", " 2 ", "-", " - ", "-1", "=", " = ", ":-", " ?- ", "\\+ ", ";", " is ", " rem(", "'-'", "','", "'|' ", "0'''", "!", " mod "}
	for range 200000 {
		var src strings.Builder
		for range 1 + chance.Intn(10) {
			src.WriteString(pieces[chance.Intn(len(pieces))])
		}
		if x, _, _, e := read.Query(src.String()); e == api.OK {
			known++
			checkAgain(t, x)
		}
	}
	if known < 5000 {
		t.Errorf("only %d of the sources can be read", known)
	}
}

// P7.2: whatever the source is.
func FuzzAgain(f *testing.F) {
	for _, src := range []string{"a :- b, c.", "X = - 1", "[a|T]", "- = x", "{(-) - 1}", "'{}'(a, b)"} {
		f.Add(src)
	}
	f.Fuzz(func(t *testing.T, src string) {
		x, _, _, e := read.Query(src)
		if text, _ := Clause(x); e == api.OK && len(text) <= api.MaxText {
			checkAgain(t, x)
		}
	})
}
