package write

import (
	"strings"

	"spinney/api"
	"spinney/char"
	"spinney/num"
	"spinney/ops"
)

// The priorities within which terms stand that are no operands.
const (
	greatest = 1200 // a whole one, or one in braces
	listed   = 999  // an argument, or an element of a list
)

// writer is what has been laid of a text. Its methods may call one another for what a term is made of, since a checked term
// is not deep.
type writer struct {
	text strings.Builder
}

// lay lays pieces of the text behind what is laid already.
func (w *writer) lay(pieces ...string) {
	for _, piece := range pieces {
		w.text.WriteString(piece)
	}
}

// within lays a term's text within a priority.
func (w *writer) within(t api.Term, most int) {
	switch t.Kind {
	case api.Var:
		w.lay("_", num.Text(t.N))
	case api.Int:
		w.lay(num.Text(t.N))
	case api.Atom:
		w.lay(char.Write(t.Name))
	default:
		w.comp(t, most)
	}
}

func (w *writer) comp(t api.Term, most int) {
	o, between := ops.Infix(t.Name)
	switch {
	case isPair(t):
		w.list(t)
	case t.Name == "{}" && len(t.Args) == 1:
		w.lay("{")
		w.within(t.Args[0], greatest)
		w.lay("}")
	case between && len(t.Args) == 2 && o.Pri > most:
		w.lay("(")
		w.infix(t, o)
		w.lay(")")
	case between && len(t.Args) == 2:
		w.infix(t, o)
	default:
		w.called(t)
	}
}

// isPair tells whether a term is an element of a list, and what is behind it.
func isPair(t api.Term) bool { return t.Kind == api.Comp && t.Name == "." && len(t.Args) == 2 }

func isEmptyList(t api.Term) bool { return t.Kind == api.Atom && t.Name == "[]" }

func (w *writer) list(t api.Term) {
	ahead := "["
elements:
	for {
		switch {
		case isPair(t):
			w.lay(ahead)
			w.within(t.Args[0], listed)
			ahead, t = ",", t.Args[1]
		case isEmptyList(t):
			break elements
		default:
			w.lay("|")
			w.within(t, listed)
			break elements
		}
	}
	w.lay("]")
}

// infix lays a Comp of two that is o's, without brackets around it.
func (w *writer) infix(t api.Term, o api.Op) {
	w.operand(t.Args[0], ops.Left(o))
	if t.Name == "," {
		w.lay(",")
	} else {
		w.lay(" ", char.Write(t.Name), " ")
	}
	w.operand(t.Args[1], ops.Right(o))
}

// operand lays a term's text at an operator's side, where an operator that is there for itself would be taken for one at work.
func (w *writer) operand(t api.Term, most int) {
	if t.Kind == api.Atom && isOperator(t.Name) {
		w.lay("(", char.Write(t.Name), ")")
		return
	}
	w.within(t, most)
}

func isOperator(name string) bool {
	_, before := ops.Prefix(name)
	_, between := ops.Infix(name)
	return before || between
}

// called lays a Comp as its name, and its Args in brackets.
func (w *writer) called(t api.Term) {
	switch t.Name {
	case "[]", "{}":
		// These are bare as Atoms, but no brackets are read as arguments behind them.
		w.lay("'", t.Name, "'")
	default:
		w.lay(char.Write(t.Name))
	}
	ahead := "("
	for _, arg := range t.Args {
		w.lay(ahead)
		w.within(arg, listed)
		ahead = ","
	}
	w.lay(")")
}
