package token

import (
	"math"
	"regexp"
	"slices"
	"strconv"
	"strings"
	"testing"
	"unicode/utf8"

	"spinney/api"
	"spinney/char"
)

// Tokens, as the tests write them.
func tok(kind int, text string, at int) api.Token { return api.Token{Kind: kind, Text: text, At: at} }

func integer(n int64, at int) api.Token { return api.Token{Kind: api.TInt, N: n, At: at} }

// checkCut holds that src is cut into want, and a TStop behind them.
func checkCut(t *testing.T, src string, want ...api.Token) {
	t.Helper()
	want = append(want, api.Token{Kind: api.TStop, At: len(src)})
	if l, at, e := Cut(src); !slices.Equal(l, want) || at != 0 || e != api.OK {
		t.Errorf("Cut(%q): got %v, %d, %d, want %v", src, l, at, e, want)
	}
}

// checkRefused holds that src is refused at that place, and that no token comes with it.
func checkRefused(t *testing.T, src string, place int) {
	t.Helper()
	if l, at, e := Cut(src); len(l) != 0 || at != place || e != api.ErrToken {
		t.Errorf("Cut(%q): got %v, %d, %d, want ErrToken at %d", src, l, at, e, place)
	}
}

// P5.1
func TestExamples(t *testing.T) {
	checkCut(t, "foo(X, 'a b').", tok(api.TName, "foo", 0), tok(api.TOpen, "(", 3), tok(api.TVar, "X", 4), tok(api.TPunct, ",", 5), tok(api.TQuoted, "a b", 7), tok(api.TPunct, ")", 12), tok(api.TEnd, ".", 13))
	checkCut(t, "a:-b", tok(api.TName, "a", 0), tok(api.TSymbol, ":-", 1), tok(api.TName, "b", 3))
	checkRefused(t, `X = "`, 4)
}

// P5.1
func TestKinds(t *testing.T) {
	checkCut(t, "")
	for text, kind := range map[string]int{
		"a": api.TName, "z": api.TName, "foo": api.TName, "aB_9": api.TName, "a__": api.TName, "z0Z": api.TName, "!": api.TName, ";": api.TName,
		"A": api.TVar, "Z": api.TVar, "_": api.TVar, "__": api.TVar, "_a": api.TVar, "_1": api.TVar, "Xy_9": api.TVar,
		"+": api.TSymbol, ":-": api.TSymbol, "=..": api.TSymbol, "..": api.TSymbol, ".=": api.TSymbol, "\\": api.TSymbol, "//": api.TSymbol, "//*": api.TSymbol, "*/": api.TSymbol, "./*": api.TSymbol, "+-*/\\^<>=~:.?@#&$": api.TSymbol,
		"(": api.TPunct, ")": api.TPunct, "[": api.TPunct, "]": api.TPunct, "{": api.TPunct, "}": api.TPunct, ",": api.TPunct, "|": api.TPunct,
		".": api.TEnd,
	} {
		checkCut(t, text, tok(kind, text, 0))
		checkCut(t, " \t"+text+"\r\n", tok(kind, text, 2))
	}
	checkCut(t, "aB1Ab", tok(api.TName, "aB1Ab", 0))
	checkCut(t, "AbaB", tok(api.TVar, "AbaB", 0))
	checkCut(t, "!!;", tok(api.TName, "!", 0), tok(api.TName, "!", 1), tok(api.TName, ";", 2))
	checkCut(t, "!a;-", tok(api.TName, "!", 0), tok(api.TName, "a", 1), tok(api.TName, ";", 2), tok(api.TSymbol, "-", 3))
	checkCut(t, "[]{}||", tok(api.TPunct, "[", 0), tok(api.TPunct, "]", 1), tok(api.TPunct, "{", 2), tok(api.TPunct, "}", 3), tok(api.TPunct, "|", 4), tok(api.TPunct, "|", 5))
}

// P5.1
func TestQuoted(t *testing.T) {
	for src, text := range map[string]string{
		"''": "", "'a'": "a", "'a b'": "a b", "'a''b'": "a'b", "''''": "'", `'\''`: "'", `'\\\n\t'`: "\\\n\t", `'\x41\'`: "A", "'é'": "é", "'\ufffd'": "\ufffd", "'% /* ('": "% /* (", "'.'": ".", "'X'": "X",
	} {
		checkCut(t, src, tok(api.TQuoted, text, 0))
		checkCut(t, src+" x", tok(api.TQuoted, text, 0), tok(api.TName, "x", len(src)+1))
	}
	checkCut(t, "'a' 'b'", tok(api.TQuoted, "a", 0), tok(api.TQuoted, "b", 4))
	checkCut(t, "a'b'C", tok(api.TName, "a", 0), tok(api.TQuoted, "b", 1), tok(api.TVar, "C", 4))
	for src, place := range map[string]int{
		"'": 0, "'a": 0, "a 'b": 2, "'a''": 0, "'''": 0, "'a' '": 4, "'\n'": 0, "a '\x1f'": 2, `'\q'`: 0, `'\x\'`: 0, `'\xd800\'`: 0, `'\x110000\'`: 0, "'\xff'": 0, "x'a\xc3'": 1, `"a"`: 0, "`a`": 0,
	} {
		checkRefused(t, src, place)
	}
}

// P5.1
func TestNumbers(t *testing.T) {
	for src, n := range map[string]int64{
		"0": 0, "7": 7, "12": 12, "007": 7, "9223372036854775807": math.MaxInt64, "9223372036854775808": math.MinInt64, "00009223372036854775808": math.MinInt64, strings.Repeat("0", 4095) + "9": 9,
	} {
		checkCut(t, src, integer(n, 0))
	}
	checkCut(t, "-1", tok(api.TSymbol, "-", 0), integer(1, 1))
	checkCut(t, "-9223372036854775808", tok(api.TSymbol, "-", 0), integer(math.MinInt64, 1))
	checkCut(t, "12a", integer(12, 0), tok(api.TName, "a", 2))
	checkCut(t, "12_", integer(12, 0), tok(api.TVar, "_", 2))
	checkCut(t, "1.", integer(1, 0), tok(api.TEnd, ".", 1))
	checkCut(t, "1.5", integer(1, 0), tok(api.TSymbol, ".", 1), integer(5, 2))
	checkCut(t, "0x1F", integer(0, 0), tok(api.TName, "x1F", 1))
	for src, place := range map[string]int{
		"9223372036854775809": 0, "18446744073709551616": 0, "18446744073709551617": 0, "99999999999999999999": 0, "a 9223372036854775809": 2, "-9223372036854775809": 1, "f(1, 10000000000000000000)": 5, strings.Repeat("9", 4096): 0, "0009223372036854775809": 0,
		"\u0661": 0, "1\u0661": 1, "\uff11": 0,
	} {
		checkRefused(t, src, place)
	}
}

// P5.1
func TestRuneNumbers(t *testing.T) {
	for src, n := range map[string]int64{
		"0'a": 'a', "0'A": 'A', "0'0": '0', "0' ": ' ', "0'%": '%', "0'.": '.', "0'(": '(', "0'\"": '"', "0'/": '/', "0'\x7f": 127, "0'\u0080": 128, "0'é": 233, "0'\ufffd": 0xfffd, "0'\U0010ffff": 0x10ffff, "0'''": 39,
	} {
		checkCut(t, src, integer(n, 0))
		checkCut(t, src+"b", integer(n, 0), tok(api.TName, "b", len(src)))
	}
	checkCut(t, "0'12", integer('1', 0), integer(2, 3))
	checkCut(t, "0'a(", integer('a', 0), tok(api.TPunct, "(", 3))
	checkCut(t, "0''", integer(0, 0), tok(api.TQuoted, "", 1))
	checkCut(t, "0'' ", integer(0, 0), tok(api.TQuoted, "", 1))
	checkCut(t, "0'''''", integer(39, 0), tok(api.TQuoted, "", 4))
	checkCut(t, `0'\n'`, integer(0, 0), tok(api.TQuoted, "\n", 1))
	checkCut(t, `0'\\'`, integer(0, 0), tok(api.TQuoted, "\\", 1))
	checkCut(t, "00'a'", integer(0, 0), tok(api.TQuoted, "a", 2))
	checkCut(t, "10'a'", integer(10, 0), tok(api.TQuoted, "a", 2))
	checkCut(t, "1'a'", integer(1, 0), tok(api.TQuoted, "a", 1))
	checkCut(t, "a0'b'", tok(api.TName, "a0", 0), tok(api.TQuoted, "b", 2))
	for src, place := range map[string]int{
		"0'": 1, "0'\n": 1, "0'\t": 1, "0'\x00": 1, "0'\x1f": 1, `0'\`: 1, `0'\n`: 1, "0'\xff": 1, "0'\xc3": 1, "0'\xed\xa0\x80": 1, "0''a'": 4, "0''''": 4, "0'a'": 3, "0'ab'": 4, "0'é'": 4, "00'a": 2,
	} {
		checkRefused(t, src, place)
	}
}

// P5.1
func TestEnds(t *testing.T) {
	a := tok(api.TName, "a", 0)
	for _, src := range []string{"a.", "a. ", "a.\n", "a.\t", "a.\r", "a.%", "a.% b.\n"} {
		checkCut(t, src, a, tok(api.TEnd, ".", 1))
	}
	checkCut(t, ". . .", tok(api.TEnd, ".", 0), tok(api.TEnd, ".", 2), tok(api.TEnd, ".", 4))
	checkCut(t, "a.b", a, tok(api.TSymbol, ".", 1), tok(api.TName, "b", 2))
	checkCut(t, "a.(", a, tok(api.TSymbol, ".", 1), tok(api.TOpen, "(", 2))
	checkCut(t, "a.)", a, tok(api.TSymbol, ".", 1), tok(api.TPunct, ")", 2))
	checkCut(t, "a.'b'", a, tok(api.TSymbol, ".", 1), tok(api.TQuoted, "b", 2))
	checkCut(t, "a.!", a, tok(api.TSymbol, ".", 1), tok(api.TName, "!", 2))
	checkCut(t, "a.1", a, tok(api.TSymbol, ".", 1), integer(1, 2))
	checkCut(t, "a..", a, tok(api.TSymbol, "..", 1))
	checkCut(t, "a.. .", a, tok(api.TSymbol, "..", 1), tok(api.TEnd, ".", 4))
	checkCut(t, "a+.", a, tok(api.TSymbol, "+.", 1))
	checkCut(t, "a+. ", a, tok(api.TSymbol, "+.", 1))
	checkCut(t, "a+ .", a, tok(api.TSymbol, "+", 1), tok(api.TEnd, ".", 3))
	checkCut(t, "a.+ ", a, tok(api.TSymbol, ".+", 1))
	checkCut(t, "a./* ", a, tok(api.TSymbol, "./*", 1))
	checkCut(t, "/**/.", tok(api.TEnd, ".", 4))
	checkRefused(t, "a.é", 2)
	checkRefused(t, "a.\u0085", 2)
	checkRefused(t, "a.\x85", 2)
	checkRefused(t, "a.\x00", 2)
	checkRefused(t, "a.\"", 2)
}

// P5.1
func TestOpens(t *testing.T) {
	for ahead, kind := range map[string]int{
		"a": api.TOpen, "aB9": api.TOpen, "!": api.TOpen, ";": api.TOpen, "'a'": api.TOpen, "''": api.TOpen, "+": api.TOpen, ".": api.TOpen, "*/": api.TOpen, "]": api.TOpen, "}": api.TOpen,
		"X": api.TPunct, "_": api.TPunct, "1": api.TPunct, "0'a": api.TPunct, "0'''": api.TPunct, "0']": api.TPunct, "(": api.TPunct, ")": api.TPunct, "[": api.TPunct, "{": api.TPunct, ",": api.TPunct, "|": api.TPunct, "": api.TPunct,
	} {
		for between, kind := range map[string]int{"": kind, " ": api.TPunct, "\n": api.TPunct, "\t/**/": api.TPunct, " %\n": api.TPunct} {
			checkBracket(t, ahead+between, kind)
		}
		// Behind Signs a /* is a part of the run.
		if !strings.ContainsAny(ahead, "+.*") {
			checkBracket(t, ahead+"/**/", api.TPunct)
		}
		checkBracket(t, ahead+"%\n", api.TPunct)
	}
	checkCut(t, "f((a))", tok(api.TName, "f", 0), tok(api.TOpen, "(", 1), tok(api.TPunct, "(", 2), tok(api.TName, "a", 3), tok(api.TPunct, ")", 4), tok(api.TPunct, ")", 5))
	checkCut(t, "+/**/(", tok(api.TSymbol, "+/**/", 0), tok(api.TOpen, "(", 5))
	// Only a ( itself: an atom of that text is none.
	checkCut(t, "a'('", tok(api.TName, "a", 0), tok(api.TQuoted, "(", 1))
	checkCut(t, "a[b", tok(api.TName, "a", 0), tok(api.TPunct, "[", 1), tok(api.TName, "b", 2))
}

// checkBracket holds of which kind a ( behind ahead is.
func checkBracket(t *testing.T, ahead string, kind int) {
	t.Helper()
	l, _, e := Cut(ahead + "(")
	if e != api.OK || len(l) < 2 || l[len(l)-2] != tok(kind, "(", len(ahead)) {
		t.Errorf("Cut(%q): got %v, %d", ahead+"(", l, e)
	}
}

// P5.1
func TestRemarks(t *testing.T) {
	a := tok(api.TName, "a", 0)
	for _, src := range []string{
		"%", "%\n", "% a", "% a\n", "%%\n%", "%/*\n", "% '\n", "%\xff\n", "%\xff", "%é", "%\x00\r\n", "/**/", "/***/", "/*/*/", "/* a */", "/*\n*/", "/* % */", "/* ' \" */", "/*\xff*/", "/*\x00é*/", "/**//**/", "/* a */%b\n/* c */",
	} {
		checkCut(t, src)
		checkCut(t, "a "+src, a)
		checkCut(t, src+"\na", tok(api.TName, "a", len(src)+1))
	}
	// Only a rune 10 ends a % remark.
	checkCut(t, "% b\ra")
	checkCut(t, "a%b\na", a, tok(api.TName, "a", 4))
	checkCut(t, "a/* b */a", a, tok(api.TName, "a", 8))
	checkCut(t, "/* /* */a*/", tok(api.TName, "a", 8), tok(api.TSymbol, "*/", 9))
	checkCut(t, "/*é*/a", tok(api.TName, "a", 6))
	checkCut(t, "a+/*b*/", a, tok(api.TSymbol, "+/*", 1), tok(api.TName, "b", 4), tok(api.TSymbol, "*/", 5))
	checkCut(t, "//*b", tok(api.TSymbol, "//*", 0), tok(api.TName, "b", 3))
	checkCut(t, "/ *", tok(api.TSymbol, "/", 0), tok(api.TSymbol, "*", 2))
	checkCut(t, "'/*'", tok(api.TQuoted, "/*", 0))
	for src, place := range map[string]int{
		"/*": 0, "/*/": 0, "/* a": 0, "/**": 0, "/* * /": 0, "a /* b *": 2, "a/*": 1, "/**//*": 4, "%\n/*": 2, ",/* % */ /*": 9, "/*\xff": 0, "/* */\xff": 5, "%\n\xff": 2,
	} {
		checkRefused(t, src, place)
	}
}

// P5.1
func TestNoToken(t *testing.T) {
	for _, bad := range []string{"\"", "`", "é", "\ufffd", "\u00a0", "\u2028", "ß", "\x00", "\x0b", "\x0c", "\x1f", "\x7f", "\xff", "\xc3", "\x80", "\xed\xa0\x80", "\xc0\x80", "\xf4\x90\x80\x80", "\ufeff"} {
		for _, ahead := range []string{"", " ", "a", "X", "1", "+", "'a'", "a(", "% \xff é\n", "/* \xff */", "'é'", "0'é"} {
			checkRefused(t, ahead+bad, len(ahead))
			// The first one counts, and what stands behind it does not.
			checkRefused(t, ahead+bad+" '"+bad, len(ahead))
		}
	}
}

// P5.1
func TestLongSources(t *testing.T) {
	checkCut(t, strings.Repeat(" ", api.MaxText))
	checkCut(t, strings.Repeat(" ", api.MaxText-1)+".", tok(api.TEnd, ".", api.MaxText-1))
	checkCut(t, strings.Repeat("A", api.MaxText), tok(api.TVar, strings.Repeat("A", api.MaxText), 0))
	checkCut(t, "%"+strings.Repeat("é", api.MaxText/2-1)+"\n")
	checkRefused(t, strings.Repeat(" ", api.MaxText-1)+"\xff", api.MaxText-1)
	for _, src := range []string{
		strings.Repeat(" ", api.MaxText+1), strings.Repeat("a ", 100000), strings.Repeat("\xff", api.MaxText+1), "é" + strings.Repeat(" ", api.MaxText), strings.Repeat(" ", api.MaxText) + "'", "%" + strings.Repeat("é", api.MaxText/2),
	} {
		if l, at, e := Cut(src); len(l) != 0 || at != 0 || e != api.ErrLong {
			t.Errorf("of %d bytes: got %d tokens, %d, %d", len(src), len(l), at, e)
		}
	}
}

// P5.1
func TestLongTexts(t *testing.T) {
	for _, piece := range []string{"a", "+", "."} {
		kind := api.TSymbol
		if piece == "a" {
			kind = api.TName
		}
		checkCut(t, " "+strings.Repeat(piece, api.MaxName), tok(kind, strings.Repeat(piece, api.MaxName), 1))
		checkRefused(t, " "+strings.Repeat(piece, api.MaxName+1), 1)
	}
	for _, atom := range [][2]string{{"a", "a"}, {"''", "'"}, {`\'`, "'"}, {`\n`, "\n"}, {`\x41\`, "A"}, {" ", " "}} {
		checkCut(t, "X'"+strings.Repeat(atom[0], api.MaxName)+"'", tok(api.TVar, "X", 0), tok(api.TQuoted, strings.Repeat(atom[1], api.MaxName), 1))
		checkRefused(t, "X'"+strings.Repeat(atom[0], api.MaxName+1)+"'", 1)
	}
	checkCut(t, "'"+strings.Repeat("é", 127)+"a'", tok(api.TQuoted, strings.Repeat("é", 127)+"a", 0))
	checkRefused(t, "'"+strings.Repeat("é", 128)+"'", 0)
	checkRefused(t, `'`+strings.Repeat(`\xe9\`, 128)+`'`, 0)
	// A variable's text is no atom's.
	checkCut(t, "_"+strings.Repeat("a", api.MaxName), tok(api.TVar, "_"+strings.Repeat("a", api.MaxName), 0))
	// The first of two places.
	checkRefused(t, strings.Repeat("a", api.MaxName+1)+" \xff", 0)
	checkRefused(t, "\xff "+strings.Repeat("a", api.MaxName+1), 0)
	checkRefused(t, "9223372036854775809 "+strings.Repeat("+", api.MaxName+1), 0)
}

var (
	wantBlank  = regexp.MustCompile(`^([\t\n\r ]|%[^\n]*|/\*(?s:.*?)\*/)+`)
	wantRemark = regexp.MustCompile(`^/\*`)
	wantWord   = regexp.MustCompile(`^([a-z][a-zA-Z_0-9]*|[!;])`)
	wantVar    = regexp.MustCompile(`^[A-Z_][a-zA-Z_0-9]*`)
	wantRune   = regexp.MustCompile(`^0'([^'\\\x00-\x1f]|'')`)
	wantDigits = regexp.MustCompile(`^[0-9]+`)
	wantSigns  = regexp.MustCompile(`^[-+*/\\^<>=~:.?@#&$]+`)
	wantEnd    = regexp.MustCompile(`^\.($|[\t\n\r %])`)
	wantPunct  = regexp.MustCompile(`^[][(){},|]`)
	wantOpens  = regexp.MustCompile(`^[]}]$`)
)

// wantFirst is the token at s's beginning by the words of the chapter, by another way than Cut, and its bytes.
func wantFirst(s string) (api.Token, int) {
	if n := wantWord.FindString(s); n != "" {
		return tok(api.TName, n, 0), len(n)
	}
	if n := wantVar.FindString(s); n != "" {
		return tok(api.TVar, n, 0), len(n)
	}
	if n := wantRune.FindString(s); n != "" && utf8.ValidString(n) {
		return integer(int64([]rune(n)[2]), 0), len(n)
	}
	if n := wantDigits.FindString(s); n != "" {
		if u, err := strconv.ParseUint(n, 10, 64); err == nil && u <= 1<<63 {
			return integer(int64(u), 0), len(n)
		}
		return api.Token{}, 0
	}
	if n := wantSigns.FindString(s); n != "" {
		if wantEnd.MatchString(s) {
			return tok(api.TEnd, n, 0), 1
		}
		return tok(api.TSymbol, n, 0), len(n)
	}
	if n := wantPunct.FindString(s); n != "" {
		return tok(api.TPunct, n, 0), 1
	}
	text, n, _ := char.Read(s)
	return tok(api.TQuoted, text, 0), n
}

// wantCut is what Cut must answer of a source that is not too long.
func wantCut(src string) ([]api.Token, int, api.Errno) {
	var l []api.Token
	for at := 0; ; {
		blank := len(wantBlank.FindString(src[at:]))
		at += blank
		if at == len(src) {
			return append(l, tok(api.TStop, "", at)), 0, api.OK
		}
		x, n := wantFirst(src[at:])
		if n == 0 || wantRemark.MatchString(src[at:]) || len(x.Text) > api.MaxName && x.Kind != api.TVar {
			return nil, at, api.ErrToken
		}
		if x.Text == "(" && blank == 0 && len(l) > 0 && x.Kind == api.TPunct {
			last := l[len(l)-1]
			if last.Kind <= api.TSymbol || last.Kind == api.TPunct && wantOpens.MatchString(last.Text) {
				x.Kind = api.TOpen
			}
		}
		x.At = at
		l, at = append(l, x), at+n
	}
}

// texts are all texts of up to most of the pieces, one behind the other.
func texts(pieces []string, most int) []string {
	out := []string{""}
	for from := 0; most > 0; most-- {
		to := len(out)
		for _, s := range out[from:to] {
			for _, p := range pieces {
				out = append(out, s+p)
			}
		}
		from = to
	}
	return out
}

// sources are short ones of all kinds: those that hang on several runes are built of few pieces, and so go further.
func sources() []string {
	return slices.Concat(
		texts([]string{"a", "X", "0", "'", ".", "/", "*", "%", "(", "]", "!", ",", " ", "\n", "é", "\xff"}, 4),
		texts([]string{"0", "'", "\\", "a", "(", " "}, 6),
		texts([]string{"/", "*", ".", "%", "\n", "a"}, 6),
	)
}

// P5.1
func TestAllShort(t *testing.T) {
	for _, src := range sources() {
		want, place, fault := wantCut(src)
		if l, at, e := Cut(src); !slices.Equal(l, want) || at != place || e != fault {
			t.Errorf("Cut(%q): got %v, %d, %d, want %v, %d, %d", src, l, at, e, want, place, fault)
		}
	}
}

// checkAgain holds that src, cut again from its token l[i] on, has the same tokens from there on; a ( that was right behind
// another token has lost it, and so is no TOpen any more.
func checkAgain(t *testing.T, src string, l []api.Token, i int) {
	t.Helper()
	want := slices.Clone(l[i:])
	for k := range want {
		want[k].At -= l[i].At
	}
	if want[0].Kind == api.TOpen {
		want[0].Kind = api.TPunct
	}
	if again, at, e := Cut(src[l[i].At:]); !slices.Equal(again, want) || at != 0 || e != api.OK {
		t.Errorf("Cut(%q), of %q: got %v, %d, %d, want %v", src[l[i].At:], src, again, at, e, want)
	}
}

// checkFollows holds of a source that is cut what the chapter says follows.
func checkFollows(t *testing.T, src string, l []api.Token) {
	t.Helper()
	end := 0
	for i, x := range l {
		if blank := src[end:min(max(x.At, end), len(src))]; x.At < end || wantBlank.FindString(blank) != blank {
			t.Errorf("Cut(%q): the token %v is not behind a blank from %d on", src, x, end)
			return
		}
		checkAgain(t, src, l, i)
		_, width := wantFirst(src[x.At:])
		end = x.At + width
	}
}

// P5.2
func TestFollows(t *testing.T) {
	cut := 0
	for _, src := range append(sources(), "foo(X, 'a b').", "a :- b(X), /* c */ \\+ d. % e\nf([1|T]) :- X = \"") {
		if l, _, e := Cut(src); e == api.OK {
			cut++
			checkFollows(t, src, l)
		}
	}
	if cut < 10000 {
		t.Errorf("only %d sources were cut", cut)
	}
}

// P5.2: what is refused behind some tokens does not hang on them.
func TestRefusedAgain(t *testing.T) {
	for _, ahead := range []string{"a ", "X, ", "'b' ", "12 ", "f(", "% c\n", "/* c */", ". "} {
		for _, src := range sources()[:5000] {
			_, place, e := Cut(src)
			if _, at, fault := Cut(ahead + src); e != api.OK && (at != place+len(ahead) || fault != e) {
				t.Errorf("Cut(%q): got %d, %d; without %q %d, %d", ahead+src, at, fault, ahead, place, e)
			}
		}
	}
}

// R2: the list is the caller's own.
func TestOwnList(t *testing.T) {
	const src = "a(X) :- b."
	first, _, _ := Cut(src)
	want := slices.Clone(first)
	clear(first)
	if again, _, _ := Cut(src); !slices.Equal(again, want) || len(want) != 8 {
		t.Errorf("Cut(%q): got %v, and ahead %v", src, again, want)
	}
}
