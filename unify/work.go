package unify

import (
	"spinney/api"
	"spinney/subst"
)

// pair are two terms that are still to be met.
type pair struct{ x, y api.Term }

// work is what one call goes by: the bindings, how many steps are left, and the pairs that wait, the next one last. They
// stand in a slice, and nothing calls itself: terms may be deeper than Go's stack bears.
type work struct {
	b       []api.Bind
	left    int
	waiting []pair
}

func begin(b []api.Bind, x, y api.Term) *work {
	return &work{b: b, left: api.MaxWalk, waiting: []pair{{x, y}}}
}

// waits tells whether a pair waits, next takes one and tells its terms, met and walked.
func (w *work) waits() bool { return len(w.waiting) > 0 }

func (w *work) next() (api.Term, api.Term, api.Errno) {
	last := len(w.waiting) - 1
	now := w.waiting[last]
	w.waiting = w.waiting[:last]
	x, e := w.meet(now.x)
	if e != api.OK {
		return api.Term{}, api.Term{}, e
	}
	y, e := w.meet(now.y)
	return x, y, e
}

// meet walks a term. Each turn is a step: the first one the term that is met, the others the bindings that are followed.
func (w *work) meet(t api.Term) (api.Term, api.Errno) {
	for w.left > 0 {
		w.left--
		if !isVar(t) {
			return t, api.OK
		}
		to, bound := subst.Look(w.b, t.N)
		if !bound {
			return t, api.OK
		}
		t = to
	}
	return api.Term{}, api.ErrSteps
}

func (w *work) bind(v int64, to api.Term) {
	w.b = append(w.b, api.Bind{Var: v, To: to})
}

// wait lets the Args of two terms wait, as far as both have some, so that the first ones are next.
func (w *work) wait(xs, ys []api.Term) {
	for i := min(len(xs), len(ys)) - 1; i >= 0; i-- {
		w.waiting = append(w.waiting, pair{xs[i], ys[i]})
	}
}
