package read

import (
	"strings"

	"spinney/api"
	"spinney/ops"
)

func atom(name string) api.Term { return api.Term{Kind: api.Atom, Name: name} }

func integer(n int64) api.Term { return api.Term{Kind: api.Int, N: n} }

func comp(name string, args ...api.Term) api.Term {
	return api.Term{Kind: api.Comp, Name: name, Args: args}
}

func isAtom(x api.Token) bool {
	return x.Kind == api.TName || x.Kind == api.TQuoted || x.Kind == api.TSymbol
}

func isPunct(x api.Token, text string) bool { return x.Kind == api.TPunct && x.Text == text }

// infix is the operator that a token is behind a term.
func infix(x api.Token) (api.Op, bool) {
	if isAtom(x) || isPunct(x, ",") {
		return ops.Infix(x.Text)
	}
	return api.Op{}, false
}

// standsAlone tells whether a prefix operator is an atom for itself, because what is behind it is not to be its operand.
func standsAlone(behind []api.Token) bool {
	x := behind[0]
	switch {
	case x.Kind == api.TEnd, x.Kind == api.TStop:
		return true
	case x.Kind == api.TPunct:
		return strings.Contains(")]},|", x.Text)
	case !isAtom(x):
		return false
	}
	_, before := ops.Prefix(x.Text)
	_, between := ops.Infix(x.Text)
	return between && !before && behind[1].Kind != api.TOpen
}
