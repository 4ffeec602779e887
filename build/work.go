package build

import (
	"slices"

	"spinney/api"
	"spinney/subst"
	"spinney/unify"
)

// pair are two terms that must be one.
type pair struct{ x, y api.Term }

// holds makes pair after pair one, each under the bindings of those ahead of it.
func holds(b []api.Bind, next int64, pairs ...pair) api.Out {
	for _, p := range pairs {
		made, one, e := unify.Unify(b, p.x, p.y)
		if e != api.OK {
			return failed(e)
		}
		if !one {
			return api.Out{}
		}
		b = made
	}
	return api.Out{Ok: true, B: b, Next: next}
}

func failed(e api.Errno) api.Out { return api.Out{E: e} }

// known is a term walked that must be one of these kinds, and not a Var.
func known(b []api.Bind, t api.Term, kinds ...int) (api.Term, api.Errno) {
	t, e := subst.Walk(b, t)
	switch {
	case e != api.OK:
		return api.Term{}, e
	case t.Kind == api.Var:
		return api.Term{}, api.ErrInst
	case !slices.Contains(kinds, t.Kind):
		return api.Term{}, api.ErrType
	}
	return t, api.OK
}

func atom(name string) api.Term { return api.Term{Kind: api.Atom, Name: name} }

func number(n int) api.Term { return api.Term{Kind: api.Int, N: int64(n)} }

func comp(name string, args []api.Term) api.Term {
	return api.Term{Kind: api.Comp, Name: name, Args: args}
}

// newVars are so many Vars from next on.
func newVars(next, count int64) []api.Term {
	var vars []api.Term
	for i := range count {
		vars = append(vars, api.Term{Kind: api.Var, N: next + i})
	}
	return vars
}

// cell is a list of an element, and of those behind it; list is one of all of these.
func cell(first, rest api.Term) api.Term { return comp(".", []api.Term{first, rest}) }

func list(all ...api.Term) api.Term {
	l := atom("[]")
	for _, t := range slices.Backward(all) {
		l = cell(t, l)
	}
	return l
}

// elements are those of a list, of which there may be as many as a term's name and its Args.
func elements(b []api.Bind, l api.Term) ([]api.Term, api.Errno) {
	var all []api.Term
	for {
		now, e := known(b, l, api.Atom, api.Comp)
		switch {
		case e != api.OK:
			return nil, e
		case isEnd(now):
			return all, api.OK
		case !isCell(now):
			return nil, api.ErrType
		case len(all) == api.MaxArity+1:
			// Asked at each cell: a list may go round, and then has no end.
			return nil, api.ErrArg
		}
		all = append(all, now.Args[0])
		l = now.Args[1]
	}
}

func isEnd(t api.Term) bool { return t.Kind == api.Atom && t.Name == "[]" }

func isCell(t api.Term) bool { return t.Kind == api.Comp && t.Name == "." && len(t.Args) == 2 }
