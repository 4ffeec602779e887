package ops

import (
	"math"
	"slices"
	"strconv"
	"strings"
	"testing"

	"spinney/api"
)

// chapter is the table of the chapter, a line each: priority, type, names.
const chapter = `
1200 xfx :-
1200 fx :- ?-
1100 xfy ;
1050 xfy ->
1000 xfy ,
900 fy \+
700 xfx = \= == \== @< @=< @> @>= =.. is =:= =\= < =< > >=
500 yfx + -
400 yfx * // rem mod
200 fy -
`

// wanted are the chapter's prefix and infix operators by their names, and all names in the table's order.
func wanted(t *testing.T) (prefix, infix map[string]api.Op, names []string) {
	t.Helper()
	prefix, infix = map[string]api.Op{}, map[string]api.Op{}
	for line := range strings.Lines(strings.TrimPrefix(chapter, "\n")) {
		words := strings.Fields(line)
		pri, err := strconv.Atoi(words[0])
		if err != nil {
			t.Fatal(err)
		}
		o := api.Op{Pri: pri, Type: words[1]}
		for _, name := range words[2:] {
			if len(o.Type) == 2 {
				prefix[name] = o
			} else {
				infix[name] = o
			}
			if !slices.Contains(names, name) {
				names = append(names, name)
			}
		}
	}
	if len(prefix) != 4 || len(infix) != 26 || len(names) != 28 {
		t.Fatalf("the test's own table: %d, %d, %d", len(prefix), len(infix), len(names))
	}
	return prefix, infix, names
}

// asked holds what Prefix and Infix answer of a name against the chapter; a name that is none has the zero Op.
func asked(t *testing.T, prefix, infix map[string]api.Op, name string) {
	t.Helper()
	want, is := prefix[name]
	if got, ok := Prefix(name); got != want || ok != is {
		t.Errorf("Prefix(%q): got %v, %t, want %v, %t", name, got, ok, want, is)
	}
	want, is = infix[name]
	if got, ok := Infix(name); got != want || ok != is {
		t.Errorf("Infix(%q): got %v, %t, want %v, %t", name, got, ok, want, is)
	}
}

// P4.1
func TestOperators(t *testing.T) {
	prefix, infix, names := wanted(t)
	for _, name := range names {
		asked(t, prefix, infix, name)
	}
}

// P4.1
func TestNamesThatAreBoth(t *testing.T) {
	for name, want := range map[string][2]api.Op{
		"-":  {{Pri: 200, Type: "fy"}, {Pri: 500, Type: "yfx"}},
		":-": {{Pri: 1200, Type: "fx"}, {Pri: 1200, Type: "xfx"}},
	} {
		before, isPrefix := Prefix(name)
		between, isInfix := Infix(name)
		if !isPrefix || !isInfix || before != want[0] || between != want[1] {
			t.Errorf("%q: got %v, %t, %v, %t", name, before, isPrefix, between, isInfix)
		}
	}
}

// P4.1
func TestNamesThatAreOneAlone(t *testing.T) {
	for _, name := range []string{"?-", `\+`} {
		if got, is := Infix(name); is || got != (api.Op{}) {
			t.Errorf("Infix(%q): got %v, %t", name, got, is)
		}
	}
	for _, name := range []string{";", "->", ",", "=", "is", "+", "*", "//", "rem", "mod"} {
		if got, is := Prefix(name); is || got != (api.Op{}) {
			t.Errorf("Prefix(%q): got %v, %t", name, got, is)
		}
	}
}

// P4.1
func TestNoOperators(t *testing.T) {
	prefix, infix, names := wanted(t)
	none := []string{
		"", " ", "foo", "a", "x", "f", "xfx", "fx", "fy", "|", "!", "[]", "{}", "(", ".", "'", "/", "**", "^", "@", "-->", "<-", "=>", "<=", "=@=", "\\", ":", "?", "??",
		"Is", "IS", "Mod", "REM", "i", "s", "iss", "mo", "modu", "re", "div", "xor", "not", "dynamic", "\xff", "\x00", "é", "−", "，", strings.Repeat("-", 1000),
	}
	for _, name := range names {
		none = append(none, name+" ", " "+name, name+"\x00", name+"\xff", name+"x", "x"+name, "'"+name+"'", name+","+name)
	}
	for _, name := range none {
		if slices.Contains(names, name) {
			t.Fatalf("%q is an operator", name)
		}
		asked(t, prefix, infix, name)
	}
}

// P4.1: all texts of up to 3 of the runes that stand in the table, and some others.
func TestShortNames(t *testing.T) {
	prefix, infix, _ := wanted(t)
	texts := []string{""}
	for from, round := 0, 0; round < 3; round++ {
		to := len(texts)
		for _, s := range texts[from:to] {
			for _, c := range `:-?;>,\+=@<.is*/remod|!^ X1` {
				texts = append(texts, s+string(c))
			}
		}
		from = to
	}
	for _, s := range texts {
		asked(t, prefix, infix, s)
	}
}

// P4.1
func TestNames(t *testing.T) {
	_, _, want := wanted(t)
	if got := Names(); !slices.Equal(got, want) {
		t.Errorf("got %q, want %q", got, want)
	}
}

// P4.1, R2: the list is the caller's own.
func TestNamesAreTheCallersOwn(t *testing.T) {
	_, _, want := wanted(t)
	first, second := Names(), Names()
	for i := range first {
		first[i] = "foo"
	}
	_ = append(first[:5], "bar")
	if !slices.Equal(second, want) || !slices.Equal(Names(), want) {
		t.Error("another list changed with it")
	}
	if _, is := Infix("foo"); is {
		t.Error("foo became an operator")
	}
	if _, is := Infix(":-"); !is {
		t.Error(":- is an operator no more")
	}
}

// P4.2
func TestSides(t *testing.T) {
	for o, want := range map[api.Op][2]int{
		{Pri: 1200, Type: "xfx"}: {1199, 1199},
		{Pri: 1200, Type: "fx"}:  {0, 1199},
		{Pri: 1100, Type: "xfy"}: {1099, 1100},
		{Pri: 1050, Type: "xfy"}: {1049, 1050},
		{Pri: 1000, Type: "xfy"}: {999, 1000},
		{Pri: 900, Type: "fy"}:   {0, 900},
		{Pri: 700, Type: "xfx"}:  {699, 699},
		{Pri: 500, Type: "yfx"}:  {500, 499},
		{Pri: 400, Type: "yfx"}:  {400, 399},
		{Pri: 200, Type: "fy"}:   {0, 200},
	} {
		if left, right := Left(o), Right(o); left != want[0] || right != want[1] {
			t.Errorf("%v: got %d, %d, want %d, %d", o, left, right, want[0], want[1])
		}
	}
}

// side is what may stand at a side of which the type has this letter.
func side(letter string, pri int) int {
	switch letter {
	case "x":
		return pri - 1
	case "y":
		return pri
	}
	return 0
}

// P4.2: the types of the table, of any priority.
func TestSidesOfOtherPriorities(t *testing.T) {
	priorities := []int{math.MinInt64 + 1, math.MaxInt64, math.MaxInt64 - 1, math.MinInt32, math.MaxInt32, 1 << 32, 999999}
	for pri := -10; pri <= 1300; pri++ {
		priorities = append(priorities, pri)
	}
	for _, kind := range []string{"xfx", "xfy", "yfx", "fx", "fy"} {
		left, right, _ := strings.Cut(kind, "f")
		for _, pri := range priorities {
			o := api.Op{Pri: pri, Type: kind}
			if got, want := Left(o), side(left, pri); got != want {
				t.Errorf("Left(%v): got %d, want %d", o, got, want)
			}
			if got, want := Right(o), side(right, pri); got != want {
				t.Errorf("Right(%v): got %d, want %d", o, got, want)
			}
		}
		// Nothing is said of one less than the least int but that the call ends.
		Left(api.Op{Pri: math.MinInt64, Type: kind})
		Right(api.Op{Pri: math.MinInt64, Type: kind})
	}
}

// P4.2
func TestSidesOfOtherTypes(t *testing.T) {
	kinds := []string{
		"", "x", "y", "f", "xf", "yf", "yfy", "xx", "xy", "yx", "ff", "xfxx", "xxfx", "xfyx", "yfxf", "fxf", "fxx", "fyy", "xff", "ffx", "xyx", "fz", "zfx", "xfz",
		"XFX", "Xfx", "FY", "FX", " xfx", "xfx ", "xfx\x00", "fy ", " fx", "f x", "prefix", "infix", ":-", "\xff", "хfх", strings.Repeat("xfx", 100),
	}
	for _, kind := range kinds {
		for _, pri := range []int{math.MinInt64, -1, 0, 1, 200, 500, 700, 1200, 1201, math.MaxInt64} {
			o := api.Op{Pri: pri, Type: kind}
			if left, right := Left(o), Right(o); left != 0 || right != 0 {
				t.Errorf("%v: got %d, %d", o, left, right)
			}
		}
	}
}

// P4.3
func TestWhatFollows(t *testing.T) {
	names := Names()
	sorted := slices.Sorted(slices.Values(names))
	if len(slices.Compact(sorted)) != len(names) {
		t.Errorf("two names are one: %q", names)
	}
	within := func(name string, pri int) {
		if pri < 199 || pri > 1200 {
			t.Errorf("%q: %d at a side", name, pri)
		}
	}
	for _, name := range names {
		before, isPrefix := Prefix(name)
		between, isInfix := Infix(name)
		if !isPrefix && !isInfix {
			t.Errorf("%q is a name of the table, but no operator", name)
		}
		if isPrefix {
			within(name, Right(before))
			if Left(before) != 0 {
				t.Errorf("%q has a left side as a prefix operator", name)
			}
		}
		if isInfix {
			within(name, Left(between))
			within(name, Right(between))
		}
	}
}
