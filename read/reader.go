package read

import (
	"slices"

	"spinney/api"
	"spinney/ops"
	"spinney/term"
)

// The priorities within which terms stand that are no operands.
const (
	greatest = 1200 // a whole one, or one in brackets
	listed   = 999  // an argument, or an element of a list
)

// reader is what is left of the tokens, the TStop last, and the names of the variables of the term that is read.
type reader struct {
	tokens []api.Token
	names  []string
}

// first is the token that stands next, pass goes over it, refuse gives up at it.
func (r *reader) first() api.Token { return r.tokens[0] }

func (r *reader) pass() { r.tokens = r.tokens[1:] }

func (r *reader) refuse() { panic(misplaced(r.first().At)) }

// passed goes over the next token, if it is that bracket, comma or bar, and tells whether it is.
func (r *reader) passed(punct string) bool {
	if !isPunct(r.first(), punct) {
		return false
	}
	r.pass()
	return true
}

func (r *reader) program() []api.Term {
	var list []api.Term
	for r.first().Kind != api.TStop {
		list = append(list, r.whole(true))
	}
	return list
}

func (r *reader) query() (api.Term, []string) {
	t := r.whole(false)
	if r.first().Kind != api.TStop {
		r.refuse()
	}
	return t, r.names
}

// whole reads a term with variables of its own, and the full stop behind it, which may be wanting where it need not end.
func (r *reader) whole(mustEnd bool) api.Term {
	r.names = nil
	start := r.first().At
	t := r.within(greatest)
	if r.first().Kind == api.TEnd {
		r.pass()
	} else if mustEnd {
		r.refuse()
	}
	if term.Check(t) == api.ErrDeep {
		panic(tooDeep(start))
	}
	return t
}

// within reads a term within a priority: a beginning, and as many operators behind it as may stand there.
func (r *reader) within(most int) api.Term {
	t, pri := r.beginning(most)
	for {
		x := r.first()
		o, ok := infix(x)
		if !ok || o.Pri > most || pri > ops.Left(o) {
			return t
		}
		r.pass()
		t, pri = comp(x.Text, t, r.within(ops.Right(o))), o.Pri
	}
}

// beginning reads what a term within a priority may begin with, and tells its own priority.
func (r *reader) beginning(most int) (api.Term, int) {
	x := r.first()
	switch {
	case isAtom(x):
		return r.named(most)
	case x.Kind == api.TVar:
		return r.variable(), 0
	case x.Kind == api.TPunct, x.Kind == api.TOpen:
		return r.bracketed(), 0
	case x.Kind == api.TInt && x.N >= 0:
		r.pass()
		return integer(x.N), 0
	}
	// What is left are the ends, and the number that stands for 2^63, which goes behind a - alone.
	r.refuse()
	return api.Term{}, 0
}

func (r *reader) variable() api.Term {
	name := r.first().Text
	n := slices.Index(r.names, name)
	if n < 0 || name == "_" {
		n = len(r.names)
		if n == api.MaxVars {
			r.refuse()
		}
		r.names = append(r.names, name)
	}
	r.pass()
	return api.Term{Kind: api.Var, N: int64(n)}
}

// named reads what begins with an atom's token.
func (r *reader) named(most int) (api.Term, int) {
	x, behind := r.tokens[0], r.tokens[1]
	if behind.Kind == api.TOpen {
		r.pass()
		return r.inside(")", func() api.Term { return comp(x.Text, r.several(api.MaxArity)...) }), 0
	}
	if x.Kind == api.TSymbol && x.Text == "-" && behind.Kind == api.TInt && behind.At == x.At+1 {
		r.pass()
		r.pass()
		// The opposite of -2^63 wraps round to itself, as the chapter wants it.
		return integer(-behind.N), 0
	}
	o, ok := ops.Prefix(x.Text)
	if !ok || standsAlone(r.tokens[1:]) {
		r.pass()
		return atom(x.Text), 0
	}
	if o.Pri > most {
		r.refuse()
	}
	r.pass()
	return comp(x.Text, r.within(ops.Right(o))), o.Pri
}

// bracketed reads what begins with a bracket.
func (r *reader) bracketed() api.Term {
	switch r.first().Text {
	case "(":
		return r.inside(")", func() api.Term { return r.within(greatest) })
	case "[":
		return r.inside("]", func() api.Term {
			if isPunct(r.first(), "]") {
				return atom("[]")
			}
			return r.list()
		})
	case "{":
		return r.inside("}", func() api.Term {
			if isPunct(r.first(), "}") {
				return atom("{}")
			}
			return comp("{}", r.within(greatest))
		})
	}
	r.refuse()
	return api.Term{}
}

// inside reads an opening bracket, what stands behind it, and the closing one.
func (r *reader) inside(closing string, read func() api.Term) api.Term {
	r.pass()
	t := read()
	if !r.passed(closing) {
		r.refuse()
	}
	return t
}

// list reads the elements of a list, and what stands at its end.
func (r *reader) list() api.Term {
	// No source has more elements than bytes: of these there may be as many as one likes.
	elements := r.several(api.MaxText)
	list := atom("[]")
	if r.passed("|") {
		list = r.within(listed)
	}
	for _, x := range slices.Backward(elements) {
		list = comp(".", x, list)
	}
	return list
}

// several reads terms with commas between, and gives up at the beginning of one that is too many.
func (r *reader) several(most int) []api.Term {
	list := []api.Term{r.within(listed)}
	for r.passed(",") {
		if len(list) == most {
			r.refuse()
		}
		list = append(list, r.within(listed))
	}
	return list
}
