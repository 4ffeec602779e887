package char

import "unicode/utf8"

// Where the reading of an atom in quotes stands.
const (
	ahead   = iota // of its first quote
	inside         // between its quotes
	closed         // behind a quote that is its last one, unless another follows
	escaped        // behind a \
	coded          // behind a \x, and perhaps some digits
)

const maxDigits = 6

// quoted is what was read of an atom in quotes so far; number and digits are those of the \x in which it stands.
type quoted struct {
	at     int
	text   []byte
	number rune
	digits int
}

// take reads one rune more, and tells whether it may stand there.
func (q *quoted) take(c rune) bool {
	switch q.at {
	case ahead:
		q.at = inside
		return c == '\''
	case inside:
		return q.takeInside(c)
	case closed:
		return c == '\'' && q.lay(c)
	case escaped:
		return q.takeEscaped(c)
	}
	return q.takeCoded(c)
}

func (q *quoted) takeInside(c rune) bool {
	switch {
	case c == '\'':
		q.at = closed
	case c == '\\':
		q.at = escaped
	case c < 32:
		return false
	default:
		return q.lay(c)
	}
	return true
}

func (q *quoted) takeEscaped(c rune) bool {
	switch c {
	case '\\', '\'':
		return q.lay(c)
	case 'n':
		return q.lay('\n')
	case 't':
		return q.lay('\t')
	case 'x':
		q.at, q.number, q.digits = coded, 0, 0
		return true
	}
	return false
}

func (q *quoted) takeCoded(c rune) bool {
	if c == '\\' {
		return q.digits > 0 && utf8.ValidRune(q.number) && q.lay(q.number)
	}
	value, ok := hexValue(c)
	// The bound on the digits keeps the number from wrapping round, too.
	if !ok || q.digits == maxDigits {
		return false
	}
	q.number, q.digits = q.number*16+value, q.digits+1
	return true
}

// lay lays a rune behind the atom's text; true, so that what takes a rune ends with it.
func (q *quoted) lay(c rune) bool {
	q.text, q.at = utf8.AppendRune(q.text, c), inside
	return true
}

func hexValue(c rune) (rune, bool) {
	switch {
	case '0' <= c && c <= '9':
		return c - '0', true
	case 'a' <= c && c <= 'f':
		return c - 'a' + 10, true
	case 'A' <= c && c <= 'F':
		return c - 'A' + 10, true
	}
	return 0, false
}
