package char

import (
	"math"
	"regexp"
	"strconv"
	"strings"
	"testing"
	"unicode/utf8"

	"spinney/api"
)

// texts are all texts of up to most of the pieces, one behind the other.
func texts(pieces []string, most int) []string {
	out := []string{""}
	for from := 0; most > 0; most-- {
		to := len(out)
		for _, s := range out[from:to] {
			for _, p := range pieces {
				out = append(out, s+p)
			}
		}
		from = to
	}
	return out
}

// P2.1
func TestClass(t *testing.T) {
	want := map[rune]int{9: Blank, 10: Blank, 13: Blank, 32: Blank}
	for class, runes := range map[int]string{
		Small: "abcdefghijklmnopqrstuvwxyz",
		Big:   "ABCDEFGHIJKLMNOPQRSTUVWXYZ_",
		Digit: "0123456789",
		Sign:  `+-*/\^<>=~:.?@#&$`,
		Solo:  "!;,|",
		Punct: "()[]{}",
		Quote: "'",
	} {
		for _, c := range runes {
			want[c] = class
		}
	}
	for c := rune(-300); c <= utf8.MaxRune+300; c++ {
		if got := Class(c); got != want[c] {
			t.Errorf("Class(%d): got %d, want %d", c, got, want[c])
		}
	}
	for _, c := range []rune{math.MinInt32, math.MaxInt32, 'a' + 1<<16, '0' - 1<<24} {
		if got := Class(c); got != 0 {
			t.Errorf("Class(%d): got %d, want 0", c, got)
		}
	}
}

// P2.1
func TestClassNumbers(t *testing.T) {
	for i, class := range []int{Small, Big, Digit, Sign, Blank, Solo, Punct, Quote} {
		if class != i+1 {
			t.Errorf("the class at %d is %d", i, class)
		}
	}
}

// P2.1
func TestCheck(t *testing.T) {
	for s, want := range map[string]bool{
		"": true, "foo": true, "a b": true, "\x00\n\x7f": true, "é": true, "\ufffd": true, "\U0010ffff": true,
		strings.Repeat("a", api.MaxName): true, strings.Repeat("é", 127): true, strings.Repeat("é", 127) + "a": true,
		strings.Repeat("a", api.MaxName+1): false, strings.Repeat("é", 128): false, strings.Repeat("a", 100000): false,
		"\xff": false, "a\xff": false, "\xffa": false, "\xc3": false, "\xc0\x80": false, "\xed\xa0\x80": false, "\xf4\x90\x80\x80": false, "\xef\xbf": false,
	} {
		if got := Check(s); got != want {
			t.Errorf("Check(%q): got %t", s, got)
		}
	}
}

// P2.1
func TestBare(t *testing.T) {
	for want, list := range map[bool][]string{
		true: {
			"[]", "{}", "!", ";", "a", "z", "foo", "aB_9", "a_", "x1", "zZ0", strings.Repeat("a", api.MaxName),
			"+", "-", "..", "...", "=..", ".+", "+.", ":-", "\\", "\\+", "/", "//", "*/", "+/*", "*/*", "//*", "/.*", "./*", "#&$@?~^<>", strings.Repeat("+", api.MaxName),
		},
		false: {
			"", ".", "/*", "/**/", "/*+", ",", "|", "'", "(", ")", "[", "]", "{", "}", "[ ]", "[]]", "[][]", "{}{}", "!!", ";;", "!;",
			"A", "Foo", "_", "_a", "0", "9a", "12", "a b", " a", "a ", "a+", "+a", "a-b", "a'", "'a'", "a!", "a\n", "+ ", "+1", "1+", "+!", "é", "aé", "+é", "%", "\"", "`", "a\x00", "\x7f",
			strings.Repeat("a", api.MaxName+1), strings.Repeat("+", api.MaxName+1), "\xff", "a\xff", "+\xff",
		},
	} {
		for _, s := range list {
			if got := Bare(s); got != want {
				t.Errorf("Bare(%q): got %t", s, got)
			}
		}
	}
}

// wantBare goes by the words of the chapter.
var wantBare = regexp.MustCompile(`^(\[\]|\{\}|!|;|[a-z][a-zA-Z_0-9]*|[-+*/\\^<>=~:.?@#&$]+)$`)

// P2.1
func TestBareAll(t *testing.T) {
	for _, s := range texts([]string{"a", "B", "_", "1", ".", "/", "*", "[", "]", "!", "'", " ", "\n", "é"}, 4) {
		want := wantBare.MatchString(s) && s != "." && !strings.HasPrefix(s, "/*")
		if got := Bare(s); got != want {
			t.Errorf("Bare(%q): got %t", s, got)
		}
	}
}

// P2.2
func TestWrite(t *testing.T) {
	for s, want := range map[string]string{
		"foo": "foo", "aB_9": "aB_9", "[]": "[]", "{}": "{}", "!": "!", ";": ";", "=..": "=..", "\\": "\\", "..": "..", "+/*": "+/*",
		"": "''", "Foo": "'Foo'", "_": "'_'", "1": "'1'", ".": "'.'", "/*": "'/*'", ",": "','", "|": "'|'", "(": "'('", "a b": "'a b'", " ": "' '", "%": "'%'", "\"": "'\"'",
		"it's": `'it\'s'`, "'": `'\''`, "''": `'\'\''`, "a\\": `'a\\'`, "\\a": `'\\a'`, "\n": `'\n'`, "\t": `'\t'`, "a\nb\tc": `'a\nb\tc'`,
		"\x00": `'\x0\'`, "\x01": `'\x1\'`, "\x08": `'\x8\'`, "\x0b": `'\xb\'`, "\r": `'\xd\'`, "\x0f": `'\xf\'`, "\x10": `'\x10\'`, "\x1f": `'\x1f\'`, "\x011": `'\x1\1'`,
		"\x7f": "'\x7f'", "é": "'é'", "\u0085": "'\u0085'", "\ufffd": "'\ufffd'", "\U0010ffff": "'\U0010ffff'",
		strings.Repeat("a", 255): strings.Repeat("a", 255), strings.Repeat("A", 255): "'" + strings.Repeat("A", 255) + "'", strings.Repeat("'", 255): "'" + strings.Repeat(`\'`, 255) + "'",
		strings.Repeat("a", 256): "", strings.Repeat("A", 256): "", strings.Repeat("é", 128): "", "\xff": "", "a\xff": "", "A\xc3": "",
	} {
		if got := Write(s); got != want {
			t.Errorf("Write(%q): got %q, want %q", s, got, want)
		}
	}
}

type reading struct {
	s, text string
	n       int
}

// P2.3
func TestReadAtoms(t *testing.T) {
	long := strings.Repeat("a", 5000)
	for _, x := range []reading{
		{"''", "", 2}, {"'a'", "a", 3}, {"'a' ", "a", 3}, {"'a''b' x", "a'b", 6}, {"''''", "'", 4}, {"''''''", "''", 6}, {"'a'''", "a'", 5}, {"'''a'", "'a", 5},
		{"'a'b'", "a", 3}, {"'a' 'b'", "a", 3}, {"''a''", "", 2}, {"''\\''", "", 2}, {`'\''`, "'", 4}, {`'\''''`, "''", 6}, {`'\\'`, "\\", 4}, {`'\n\t'`, "\n\t", 6}, {`'\'\\\n\t'`, "'\\\n\t", 10},
		{`'\x41\'`, "A", 7}, {`'\x41\\n'`, "A\n", 9}, {`'\x0\'`, "\x00", 6}, {`'\x000000\'`, "\x00", 11}, {`'\x000041\'`, "A", 11}, {`'\xa\'`, "\n", 6}, {`'\x1F\\x1f\'`, "\x1f\x1f", 12}, {`'\x41\41'`, "A41", 9},
		{`'\x27\'`, "'", 7}, {`'\x5c\'`, "\\", 7}, {`'\xe9\'`, "é", 7}, {`'\xaBcD\'`, "\uabcd", 9}, {`'\xd7ff\'`, "\ud7ff", 9}, {`'\xe000\'`, "\ue000", 9}, {`'\xfffd\'`, "\ufffd", 9}, {`'\x10ffff\'`, "\U0010ffff", 11}, {`'\x10FFFF\'`, "\U0010ffff", 11},
		{"'é'", "é", 4}, {"'\ufffd'", "\ufffd", 5}, {"'\U0010ffff'", "\U0010ffff", 6}, {"' '", " ", 3}, {"'\x7f'", "\x7f", 3}, {"'\u0085'", "\u0085", 4}, {"'\"%/*('", "\"%/*(", 7},
		{"'a'\xff", "a", 3}, {"'a'\x00", "a", 3}, {"'a'\n", "a", 3}, {"'a'\\", "a", 3}, {"'a'\xef\xbf\xbd", "a", 3}, {"'a'é", "a", 3},
		{"'" + long + "'", long, 5002}, {"'" + strings.Repeat("''", 5000) + "'", strings.Repeat("'", 5000), 10002}, {"'" + strings.Repeat("a", 255) + "'" + long, strings.Repeat("a", 255), 257},
	} {
		if text, n, e := Read(x.s); text != x.text || n != x.n || e != api.OK {
			t.Errorf("Read(%q): got %q, %d, %d, want %q, %d", x.s, text, n, e, x.text, x.n)
		}
	}
}

// P2.3
func TestReadWrong(t *testing.T) {
	for _, s := range []string{
		"", "a", "foo", " 'a'", "\"a\"", "[]", "é", "\xff", "\xff'a'", "'", "'a", "'a''", "'''", "'''''", "'a''b", "'a'' '' b",
		"'a\n'", "'\n'", "'\t'", "'\r'", "'\x00'", "'a\x1fb'", "'\x0b'", "'a''\n'",
		`'\`, `'\'`, `'\'''`, `'a\'`, `'\\\'`, `'\q'`, `'\N'`, `'\T'`, `'\X41\'`, `'\ '`, `'\0\'`, `'\r'`, "'\\\n'", "'\\é'",
		`'\x`, `'\x'`, `'\x4`, `'\x41`, `'\x41\`, `'\x41'`, `'\x\'`, `'\xg\'`, `'\x4g\'`, `'\x 41\'`, `'\x4 1\'`, `'\x-1\'`, `'\x+1\'`, `'\x_41\'`, `'\x41x\'`, `'\x/\'`, `'\x:\'`, "'\\x`\\'", `'\x@\'`, `'\xG\'`, "'\\x\u0661\\'", "'\\x\uff11\\'",
		`'\xd800\'`, `'\xdbff\'`, `'\xdc00\'`, `'\xdfff\'`, `'\xDFFF\'`, `'\x00d800\'`, `'\x110000\'`, `'\xffffff\'`, `'\x0000041\'`, `'\x0000000\'`, `'\x100000041\'`, `'\x10000000000000041\'`,
		"'\xff'", "'a\xffb'", "'a\xff", "'\xc3'", "'\xe2\x82'", "'\xef\xbf'", "'\xef'", "'\xed\xa0\x80'", "'\xc0\x80'", "'\xf4\x90\x80\x80'", "'\\\xff'", "'\\x\xff\\'", "'\ufffd\xff'", "'a''\xff'",
		"'" + strings.Repeat("a", 5000), "'a" + strings.Repeat("''", 5000),
	} {
		if text, n, e := Read(s); text != "" || n != 0 || e != api.ErrChar {
			t.Errorf("Read(%q): got %q, %d, %d", s, text, n, e)
		}
	}
}

var (
	wantQuoted = regexp.MustCompile(`^'([^'\\\x00-\x1f]|''|\\[\\'nt]|\\x[0-9a-fA-F]{1,6}\\)*'`)
	wantItem   = regexp.MustCompile(`''|\\x[^\\]*\\|\\.`)
)

// wantRead goes by the words of the chapter, by another way than Read.
func wantRead(s string) (string, int, api.Errno) {
	whole := wantQuoted.FindString(s)
	if whole == "" || !utf8.ValidString(whole) || strings.HasPrefix(s[len(whole):], "'") {
		return "", 0, api.ErrChar
	}
	goes := true
	text := wantItem.ReplaceAllStringFunc(whole[1:len(whole)-1], func(item string) string {
		switch item {
		case "''", `\'`:
			return "'"
		case `\\`:
			return `\`
		case `\n`:
			return "\n"
		case `\t`:
			return "\t"
		}
		n, _ := strconv.ParseUint(item[2:len(item)-1], 16, 32)
		goes = goes && n <= 0x10ffff && (n < 0xd800 || n > 0xdfff)
		return string(rune(n))
	})
	if !goes {
		return "", 0, api.ErrChar
	}
	return text, len(whole), api.OK
}

func checkRead(t *testing.T, s string) {
	t.Helper()
	wantText, wantN, wantE := wantRead(s)
	if text, n, e := Read(s); text != wantText || n != wantN || e != wantE {
		t.Errorf("Read(%q): got %q, %d, %d, want %q, %d, %d", s, text, n, e, wantText, wantN, wantE)
	}
}

// P2.3
func TestReadAll(t *testing.T) {
	for _, s := range texts([]string{"'", "\\", "x", "4", "n", " ", "\n", "é", "\xff"}, 5) {
		checkRead(t, s)
		checkRead(t, "'"+s+"'")
	}
	for _, s := range texts([]string{"0", "1", "d", "F", "8"}, 7) {
		checkRead(t, `'\x`+s+`\'`)
	}
}

// checkBack holds that s, if it is written in quotes, is read as what it was, whatever stands behind it, but for a '.
func checkBack(t *testing.T, s string, tails ...string) {
	t.Helper()
	w := Write(s)
	if !strings.HasPrefix(w, "'") {
		return
	}
	for _, tail := range tails {
		if text, n, e := Read(w + tail); text != s || n != len(w) || e != api.OK {
			t.Errorf("Read(%q), written of %q: got %q, %d, %d", w+tail, s, text, n, e)
		}
	}
	// The lone ' behind it is the first of what would make it longer.
	if text, n, e := Read(w + "' "); text != "" || n != 0 || e != api.ErrChar {
		t.Errorf("Read(%q): got %q, %d, %d", w+"' ", text, n, e)
	}
	if text, n, e := Read(w + "''"); text != s+"'" || n != len(w)+2 || e != api.OK {
		t.Errorf("Read(%q): got %q, %d, %d", w+"''", text, n, e)
	}
}

// P2.4
func TestReadOfWrite(t *testing.T) {
	tails := []string{"", " ", "a", "\\", "\\'", "\\x41\\'", "\n", "\x00", "\xff", "é", ".", "(", " 'b'"}
	for _, s := range texts([]string{"'", "\\", "x", "1", "A", "n", "\n", "\t", "\x00", "é"}, 4) {
		checkBack(t, s, tails...)
	}
	for _, s := range []string{strings.Repeat("A", 255), strings.Repeat("\x1f", 255), strings.Repeat("'", 255), strings.Repeat("é", 127), strings.Repeat("\ufffd", 85)} {
		checkBack(t, s, tails...)
	}
}

// P2.2, P2.4
func TestEveryRune(t *testing.T) {
	for c := rune(0); c <= utf8.MaxRune; c++ {
		if !utf8.ValidRune(c) {
			continue
		}
		s := string(c)
		if w := Write(s); Bare(s) != (w == s) || !Bare(s) && !strings.HasPrefix(w, "'") {
			t.Errorf("Write(%q): got %q", s, w)
		}
		checkBack(t, s, "")
		if text, n, e := Read(`'\x` + strconv.FormatInt(int64(c), 16) + `\'`); text != s || n == 0 || e != api.OK {
			t.Errorf("Read of the number %x: got %q, %d, %d", c, text, n, e)
		}
	}
}

// P2.2, P2.3, P2.4: whatever the text is.
func FuzzAtoms(f *testing.F) {
	for _, s := range []string{"", "'a''b' x", `'\x41\'`, "it's", "'\xff'", "\n\t\x01", "'a''"} {
		f.Add(s)
	}
	f.Fuzz(func(t *testing.T, s string) {
		checkRead(t, s)
		if !Check(s) && (Bare(s) || Write(s) != "") {
			t.Errorf("%q is no atom's text: got %t, %q", s, Bare(s), Write(s))
		}
		if Check(s) && Write(s) == "" {
			t.Errorf("Write(%q) is empty", s)
		}
		checkBack(t, s, "", " ", "\xff")
	})
}
