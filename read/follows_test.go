package read

import (
	"math/rand"
	"slices"
	"strings"
	"testing"

	"spinney/api"
	"spinney/char"
	"spinney/ops"
	"spinney/term"
	"spinney/token"
)

// outcome is what came of reading tokens by words: a term, its priority, and where the token behind it stands; or, if it does
// not go, where the token stands that does not.
type outcome struct {
	goes bool
	t    api.Term
	pri  int
	next int
}

// words reads by the chapter's words, one by one, and by another way than the package: it gives up nowhere, and hands on what
// does not go.
type words struct {
	l     []api.Token
	names []string
}

func refused(i int) outcome { return outcome{next: i} }

func (w *words) is(i int, kind int, text string) bool {
	return w.l[i].Kind == kind && w.l[i].Text == text
}

func (w *words) atom(i int) bool {
	return slices.Contains([]int{api.TName, api.TQuoted, api.TSymbol}, w.l[i].Kind)
}

func (w *words) within(i, p int) outcome {
	x := w.beginning(i, p)
	for x.goes && (w.atom(x.next) || w.is(x.next, api.TPunct, ",")) {
		name := w.l[x.next].Text
		o, ok := ops.Infix(name)
		if !ok || o.Pri > p || x.pri > ops.Left(o) {
			break
		}
		y := w.within(x.next+1, ops.Right(o))
		if !y.goes {
			return y
		}
		x = outcome{true, comp(name, x.t, y.t), o.Pri, y.next}
	}
	return x
}

func (w *words) beginning(i, p int) outcome {
	x := w.l[i]
	switch {
	case x.Kind == api.TInt && x.N >= 0:
		return outcome{true, integer(x.N), 0, i + 1}
	case x.Kind == api.TVar:
		return w.variable(i)
	case w.is(i, api.TPunct, "("), x.Kind == api.TOpen:
		return w.closed(w.within(i+1, 1200), ")", func(t api.Term) api.Term { return t })
	case w.is(i, api.TPunct, "[") && w.is(i+1, api.TPunct, "]"):
		return outcome{true, atom("[]"), 0, i + 2}
	case w.is(i, api.TPunct, "["):
		return w.items(i + 1)
	case w.is(i, api.TPunct, "{") && w.is(i+1, api.TPunct, "}"):
		return outcome{true, atom("{}"), 0, i + 2}
	case w.is(i, api.TPunct, "{"):
		return w.closed(w.within(i+1, 1200), "}", func(t api.Term) api.Term { return comp("{}", t) })
	case w.atom(i) && w.l[i+1].Kind == api.TOpen:
		return w.arguments(comp(x.Text), i+2)
	case w.is(i, api.TSymbol, "-") && w.l[i+1].Kind == api.TInt && w.l[i+1].At == x.At+1:
		return outcome{true, integer(0 - w.l[i+1].N), 0, i + 2}
	case w.atom(i) && w.prefix(i):
		o, _ := ops.Prefix(x.Text)
		if o.Pri > p {
			return refused(i)
		}
		y := w.within(i+1, ops.Right(o))
		if y.goes {
			y.t, y.pri = comp(x.Text, y.t), o.Pri
		}
		return y
	case w.atom(i):
		return outcome{true, atom(x.Text), 0, i + 1}
	}
	return refused(i)
}

func (w *words) prefix(i int) bool {
	if _, ok := ops.Prefix(w.l[i].Text); !ok {
		return false
	}
	behind := w.l[i+1]
	if behind.Kind == api.TEnd || behind.Kind == api.TStop {
		return false
	}
	for _, text := range []string{")", "]", "}", ",", "|"} {
		if w.is(i+1, api.TPunct, text) {
			return false
		}
	}
	_, infix := ops.Infix(behind.Text)
	_, prefix := ops.Prefix(behind.Text)
	return !w.atom(i+1) || !infix || prefix || w.l[i+2].Kind == api.TOpen
}

func (w *words) variable(i int) outcome {
	name := w.l[i].Text
	for n, known := range w.names {
		if known == name && name != "_" {
			return outcome{true, variable(int64(n)), 0, i + 1}
		}
	}
	if len(w.names) == 200 {
		return refused(i)
	}
	w.names = append(w.names, name)
	return outcome{true, variable(int64(len(w.names) - 1)), 0, i + 1}
}

func (w *words) closed(x outcome, bracket string, made func(t api.Term) api.Term) outcome {
	if !x.goes {
		return x
	}
	if !w.is(x.next, api.TPunct, bracket) {
		return refused(x.next)
	}
	return outcome{true, made(x.t), 0, x.next + 1}
}

// items reads what is left of a list: an element, and the rest.
func (w *words) items(i int) outcome {
	x := w.within(i, 999)
	if !x.goes {
		return x
	}
	rest := outcome{goes: true, t: atom("[]"), next: x.next + 1}
	switch {
	case w.is(x.next, api.TPunct, ","):
		rest = w.items(x.next + 1)
	case w.is(x.next, api.TPunct, "|"):
		rest = w.closed(w.within(x.next+1, 999), "]", func(t api.Term) api.Term { return t })
	case !w.is(x.next, api.TPunct, "]"):
		return refused(x.next)
	}
	if rest.goes {
		rest.t = comp(".", x.t, rest.t)
	}
	return rest
}

// arguments reads what is left of a term's arguments.
func (w *words) arguments(t api.Term, i int) outcome {
	if len(t.Args) == 16 {
		return refused(i)
	}
	x := w.within(i, 999)
	if !x.goes {
		return x
	}
	t.Args = append(t.Args, x.t)
	if w.is(x.next, api.TPunct, ",") {
		return w.arguments(t, x.next+1)
	}
	x.t = t
	return w.closed(x, ")", func(t api.Term) api.Term { return t })
}

func wantQuery(src string) (api.Term, []string, int, api.Errno) {
	l, at, e := token.Cut(src)
	if e != api.OK {
		return api.Term{}, nil, at, e
	}
	w := &words{l: l}
	x := w.within(0, 1200)
	if x.goes && l[x.next].Kind == api.TEnd {
		x.next++
	}
	switch {
	case !x.goes:
		return api.Term{}, nil, l[x.next].At, api.ErrSyntax
	case term.Check(x.t) != api.OK:
		return api.Term{}, nil, l[0].At, api.ErrDeep
	case l[x.next].Kind != api.TStop:
		return api.Term{}, nil, l[x.next].At, api.ErrSyntax
	}
	return x.t, w.names, 0, api.OK
}

func wantProgram(src string) ([]api.Term, int, api.Errno) {
	l, at, e := token.Cut(src)
	var out []api.Term
	for i := 0; e == api.OK && l[i].Kind != api.TStop; {
		x := (&words{l: l}).within(i, 1200)
		switch {
		case !x.goes || l[x.next].Kind != api.TEnd:
			at, e = l[x.next].At, api.ErrSyntax
		case term.Check(x.t) != api.OK:
			at, e = l[i].At, api.ErrDeep
		}
		out, i = append(out, x.t), x.next+1
	}
	if e != api.OK {
		return nil, at, e
	}
	return out, 0, api.OK
}

// checkWords holds that a source is read by the words of the chapter.
func checkWords(t *testing.T, src string) {
	t.Helper()
	x, names, at, e := Query(src)
	wantX, wantNames, wantAt, wantE := wantQuery(src)
	if !term.Same(x, wantX) || !slices.Equal(names, wantNames) || at != wantAt || e != wantE {
		t.Fatalf("Query(%q): got %s, %q, %d, %d, want %s, %q, %d, %d", src, text(x), names, at, e, text(wantX), wantNames, wantAt, wantE)
	}
	l, at, e := Program(src)
	wantL, wantAt, wantE := wantProgram(src)
	if !slices.EqualFunc(l, wantL, term.Same) || at != wantAt || e != wantE {
		t.Fatalf("Program(%q): got %q, %d, %d, want %q, %d, %d", src, texts(l), at, e, texts(wantL), wantAt, wantE)
	}
}

// pieces are what sources are laid together of.
var pieces = []string{"a", "b ", "f(", "(", " (", ")", "[", "]", "{", "}", ",", "|", "X", " Y", "_ ", "1", " 2 ", "-", " - ", "-1", "=", " = ", ":-", " ?- ", "\\+ ", ";", " is ", " rem(", "'-'", "','", "'|' ", ".", ". ", "!", " 9223372036854775808", "-9223372036854775808", "%.\n", " "}

// P6.1, P6.2: all short sources.
func TestAllShort(t *testing.T) {
	for _, one := range pieces {
		for _, two := range pieces {
			checkWords(t, one+two)
			for _, three := range pieces {
				checkWords(t, one+two+three)
				checkWords(t, "a"+one+two+three+"b")
				checkWords(t, "f("+one+two+three+").")
			}
		}
	}
}

// P6.1, P6.2: and many longer ones.
func TestManyLonger(t *testing.T) {
	chance := rand.New(rand.NewSource(6))
	for range 100000 {
		var src strings.Builder
		for range 4 + chance.Intn(16) {
			src.WriteString(pieces[chance.Intn(len(pieces))])
		}
		checkWords(t, src.String())
	}
}

// speller writes terms in many ways, so that they are read as what they were.
type speller struct{ chance *rand.Rand }

func (s speller) one(of ...string) string { return of[s.chance.Intn(len(of))] }

func (s speller) blank() string { return s.one(" ", "  ", "\n", " % )\n", " /* ' */ ") }

// term is some term of at most that depth.
func (s speller) term(depth int) api.Term {
	kind := s.chance.Intn(9)
	switch {
	case kind == 0:
		return variable(int64(s.chance.Intn(4)))
	case kind == 1:
		return integer(int64(s.chance.Intn(5) - 2))
	case kind < 4 || depth == 1:
		return atom(s.one("a", "b c", "[]", "{}", "-", "=", ":-", "\\+", "is", ",", ".", "|", "!", ";", "'", ""))
	case kind < 6:
		return comp(s.one(ops.Names()...), s.term(depth-1), s.term(depth-1))
	case kind < 8:
		return comp(s.one("-", "\\+", ":-", "?-", "{}", "f"), s.term(depth-1))
	}
	return comp(".", s.term(depth-1), s.term(depth-1))
}

// spell writes a term so that it may stand within a priority.
func (s speller) spell(x api.Term, most int) string {
	out, pri := s.plain(x)
	if pri > most || s.chance.Intn(8) == 0 {
		return "(" + out + s.one("", " ") + ")"
	}
	return out
}

// plain writes a term, and tells its priority; that of an operator that is no one's is so great that it is put in brackets.
func (s speller) plain(x api.Term) (string, int) {
	prefix, before := ops.Prefix(x.Name)
	infix, between := ops.Infix(x.Name)
	switch {
	case x.Kind == api.Atom && (before || between):
		return char.Write(x.Name), 1201
	case x.Kind != api.Comp:
		return text(x), 0
	case s.chance.Intn(4) == 0:
		return s.called(x), 0
	case x.Name == "." && len(x.Args) == 2:
		return "[" + s.spell(x.Args[0], 999) + s.one("|", " | ") + s.spell(x.Args[1], 999) + "]", 0
	case x.Name == "{}" && len(x.Args) == 1:
		return "{" + s.spell(x.Args[0], 1200) + "}", 0
	case before && len(x.Args) == 1:
		return char.Write(x.Name) + s.blank() + s.spell(x.Args[0], ops.Right(prefix)), prefix.Pri
	case between && len(x.Args) == 2:
		name := s.one(char.Write(x.Name), inQuotes(x.Name))
		if x.Name == "," {
			name = ","
		}
		return s.spell(x.Args[0], ops.Left(infix)) + s.blank() + name + s.blank() + s.spell(x.Args[1], ops.Right(infix)), infix.Pri
	}
	return s.called(x), 0
}

func (s speller) called(x api.Term) string {
	name := char.Write(x.Name)
	if name == "[]" || name == "{}" {
		name = "'" + name + "'"
	}
	var args []string
	for _, arg := range x.Args {
		args = append(args, s.spell(arg, 999))
	}
	return name + "(" + strings.Join(args, s.one(",", " , ")) + ")"
}

// P6.1, P6.3: whatever term is written, in brackets or not, is read as that, its variables numbered by their first places.
func TestTermsAreReadBack(t *testing.T) {
	s := speller{rand.New(rand.NewSource(63))}
	for range 50000 {
		x := s.term(6)
		src := s.spell(x, 1200)
		// Variables are written as _ and their numbers, and so are names of their own.
		y, names, at, e := Query(src)
		if !term.Variant(x, y) || at != 0 || e != api.OK {
			t.Fatalf("Query(%q), written of %s: got %s, %d, %d", src, text(x), text(y), at, e)
		}
		for i, n := range term.Vars(y) {
			if n != int64(i) || names[i] != text(variable(term.Vars(x)[i])) {
				t.Fatalf("Query(%q): got %s, %q", src, text(y), names)
			}
		}
		again, _, at, e := Query("(" + src + ")")
		if !term.Same(y, again) || at != 0 || e != api.OK {
			t.Fatalf("Query(%q) in brackets: got %s, %d, %d", src, text(again), at, e)
		}
	}
}

// P6.3
func TestTwoPrograms(t *testing.T) {
	programs := []string{"", "a.", "f(X, Y). g(Y).", "% remark\n", "p :- q(X, _), \\+ r(X).\n?- p.", "- . ", ":- a.%\n", "X.", "[_|T]. /* */", "'.'."}
	for _, one := range programs {
		for _, two := range programs {
			first, _, _ := Program(one)
			second, _, _ := Program(two)
			both, at, e := Program(one + " " + two)
			if !slices.EqualFunc(both, slices.Concat(first, second), term.Same) || at != 0 || e != api.OK {
				t.Errorf("Program of %q and %q: got %q, %d, %d", one, two, texts(both), at, e)
			}
		}
	}
}

// lists are those of all of a term's Args.
func lists(x api.Term) [][]api.Term {
	out := [][]api.Term{x.Args}
	for _, arg := range x.Args {
		out = append(out, lists(arg)...)
	}
	return out
}

// R2: what is answered is the caller's own.
func TestAnswersAreTheCallersOwn(t *testing.T) {
	const src = "f(X, [a, X|Y], {b, c}, g(_), - Y, X = Y, (h(i) :- j))"
	x, names, _, _ := Query(src)
	want, wantNames := text(x), slices.Clone(names)
	_ = append(names, "more")
	for _, l := range lists(x) {
		// What is laid behind one list must not stand in another.
		_ = append(l, atom("more"), atom("and more"))
	}
	if text(x) != want || !slices.Equal(names, wantNames) {
		t.Errorf("laid behind: got %s, %q", text(x), names)
	}
	for _, l := range lists(x) {
		for i := range l {
			l[i] = atom("other")
		}
	}
	clear(names)
	if again, names, _, _ := Query(src); text(again) != want || !slices.Equal(names, wantNames) {
		t.Errorf("asked again: got %s, %q", text(again), names)
	}
	l, _, _ := Program(src + ". " + src + ".")
	clear(l[0].Args)
	if text(l[1]) != want {
		t.Errorf("the other term of a program: got %s", text(l[1]))
	}
}

// P6.1, P6.2: whatever the source is.
func FuzzRead(f *testing.F) {
	for _, src := range []string{"", "a :- b, c.", "X = - 1", "[a|T]", "- = x", "f(:- a)", "a b", "a. \"", "-9223372036854775808"} {
		f.Add(src)
	}
	f.Fuzz(checkWords)
}
