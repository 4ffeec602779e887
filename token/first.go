package token

import (
	"strings"
	"unicode/utf8"

	"spinney/api"
	"spinney/char"
	"spinney/num"
)

// passed is the Kind of what is no token: a Blank or a remark.
const passed = 0

// first is what stands at the beginning of s, whose first rune is c, and how many bytes it has: 0, if nothing goes. Its At
// is left to whoever knows the whole source.
func first(s string, c rune) (api.Token, int) {
	switch char.Class(c) {
	case char.Blank:
		return api.Token{Kind: passed}, 1
	case char.Small:
		return named(word(s, api.TName))
	case char.Big:
		return word(s, api.TVar)
	case char.Digit:
		return number(s)
	case char.Sign:
		if strings.HasPrefix(s, "/*") {
			return closedRemark(s)
		}
		return named(signs(s))
	case char.Quote:
		return named(quoted(s))
	case char.Solo, char.Punct:
		return single(s, c)
	}
	if c == '%' {
		return lineRemark(s)
	}
	return api.Token{}, 0
}

// span is how many bytes the runes at s's beginning have that belong to it, up to the first that does not.
func span(s string, belongs func(c rune) bool) int {
	for i, c := range s {
		if !belongs(c) {
			return i
		}
	}
	return len(s)
}

// named lets an atom's token go, if its text may be an atom's.
func named(x api.Token, width int) (api.Token, int) {
	if !char.Check(x.Text) {
		return api.Token{}, 0
	}
	return x, width
}

func word(s string, kind int) (api.Token, int) {
	width := span(s, func(c rune) bool {
		switch char.Class(c) {
		case char.Small, char.Big, char.Digit:
			return true
		}
		return false
	})
	return api.Token{Kind: kind, Text: s[:width]}, width
}

// signs is a run of Signs: the full stop, or a symbol.
func signs(s string) (api.Token, int) {
	width := span(s, func(c rune) bool { return char.Class(c) == char.Sign })
	kind := api.TSymbol
	if s[:width] == "." && parts(s[width:]) {
		kind = api.TEnd
	}
	return api.Token{Kind: kind, Text: s[:width]}, width
}

// parts tells whether behind a . stands what makes it a full stop.
func parts(behind string) bool {
	return behind == "" || behind[0] == '%' || char.Class(rune(behind[0])) == char.Blank
}

func quoted(s string) (api.Token, int) {
	text, width, e := char.Read(s)
	if e != api.OK {
		return api.Token{}, 0
	}
	return api.Token{Kind: api.TQuoted, Text: text}, width
}

func single(s string, c rune) (api.Token, int) {
	kind := api.TPunct
	if c == '!' || c == ';' {
		kind = api.TName
	}
	return api.Token{Kind: kind, Text: s[:1]}, 1
}

func number(s string) (api.Token, int) {
	if c, width := runeNumber(s); width > 0 {
		return api.Token{Kind: api.TInt, N: int64(c)}, width
	}
	width := span(s, func(c rune) bool { return char.Class(c) == char.Digit })
	// Read as a number below 0, of which there is one more.
	n, e := num.Read("-" + s[:width])
	if e != api.OK {
		return api.Token{}, 0
	}
	// The opposite of -2^63 wraps round to itself, as the chapter wants it of 2^63.
	return api.Token{Kind: api.TInt, N: -n}, width
}

// runeNumber is the rune for which 0' and what is behind it stand, and how many bytes that has: 0, if it stands for none.
func runeNumber(s string) (rune, int) {
	behind, ok := strings.CutPrefix(s, "0'")
	if !ok {
		return 0, 0
	}
	if strings.HasPrefix(behind, "''") {
		return '\'', len("0'''")
	}
	c, width := utf8.DecodeRuneInString(behind)
	// A RuneError that is written out has three bytes; one that stands for nothing, or for a byte that is no text, has less.
	if c < 32 || c == '\'' || c == '\\' || c == utf8.RuneError && width < 2 {
		return 0, 0
	}
	return c, len("0'") + width
}

// lineRemark leaves the rune 10 that ends it, closedRemark takes its */ with it.
func lineRemark(s string) (api.Token, int) {
	return api.Token{Kind: passed}, span(s, func(c rune) bool { return c != '\n' })
}

func closedRemark(s string) (api.Token, int) {
	inside, _, ok := strings.Cut(s[len("/*"):], "*/")
	if !ok {
		return api.Token{}, 0
	}
	return api.Token{Kind: passed}, len("/*") + len(inside) + len("*/")
}
