package clause

import (
	"iter"
	"slices"

	"spinney/api"
)

// pair is the Comp of two, isPair tells whether a term is one of that name.
func pair(name string, one, other api.Term) api.Term {
	return api.Term{Kind: api.Comp, Name: name, Args: []api.Term{one, other}}
}

func isPair(t api.Term, name string) bool {
	return t.Kind == api.Comp && t.Name == name && len(t.Args) == 2
}

// isLacking tells whether a procedure is one of what the language has not.
func isLacking(name string, arity int) bool {
	switch name {
	case ",", ";", "->":
		return arity == 2
	case ":-":
		return arity == 1 || arity == 2
	case `\+`, "?-":
		return arity == 1
	}
	return false
}

// isGoal tells whether a term is a goal, isHead whether it is one that may be a clause's head.
func isGoal(t api.Term) bool {
	return (t.Kind == api.Atom || t.Kind == api.Comp) && !isLacking(t.Name, len(t.Args))
}

func isHead(t api.Term) bool { return isGoal(t) && !Builtin(t.Name, len(t.Args)) }

// goals goes through the goals of a body, whether they may be goals or not.
func goals(body api.Term) iter.Seq[api.Term] {
	return func(yield func(goal api.Term) bool) {
		waiting := []api.Term{body}
		for len(waiting) > 0 {
			last := len(waiting) - 1
			t := waiting[last]
			waiting = waiting[:last]
			if isPair(t, ",") {
				// The last one that waits goes next.
				waiting = append(waiting, t.Args[1], t.Args[0])
			} else if !yield(t) {
				return
			}
		}
	}
}

// gather lists a body's goals, each as what become makes of it, or refuses them all.
func gather(body api.Term, become func(goal api.Term) api.Term) ([]api.Term, api.Errno) {
	var list []api.Term
	for goal := range goals(body) {
		if !isGoal(goal) {
			return nil, api.ErrClause
		}
		list = append(list, become(goal))
	}
	return list, api.OK
}

// numbering is what variables become: the one that is met first is 0, the next new one 1, and so on.
type numbering map[int64]int64

func (n numbering) number(v int64) int64 {
	known, met := n[v]
	if !met {
		known = int64(len(n))
		n[v] = known
	}
	return known
}

// renumber is a term with its variables renumbered, in memory of its own. It may call itself, since a checked term is not
// deep.
func (n numbering) renumber(t api.Term) api.Term {
	if t.Kind == api.Var {
		t.N = n.number(t.N)
	}
	t.Args = slices.Clone(t.Args)
	for i, arg := range t.Args {
		t.Args[i] = n.renumber(arg)
	}
	return t
}
