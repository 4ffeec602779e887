package arith

import (
	"spinney/api"
	"spinney/subst"
)

// place is where a Var is met: in how many other terms it stands.
type place struct {
	v      int64
	others int
}

// work is what one call goes by: the bindings, and what Vars came to. Without the latter a few bindings, of each Var to a term in
// which the next one stands twice, would take too long ever to end.
type work struct {
	b     []api.Bind
	known map[place]int64
}

func begin(b []api.Bind) *work {
	return &work{b: b, known: map[place]int64{}}
}

// values are those of two terms that stand in so many others, or the first error.
func (w *work) values(x, y api.Term, others int) (int64, int64, api.Errno) {
	m, e := w.value(x, others)
	if e != api.OK {
		return 0, 0, e
	}
	n, e := w.value(y, others)
	return m, n, e
}

// value is that of a term that stands in so many others. It may call itself, since it goes no deeper than MaxDeep.
func (w *work) value(t api.Term, others int) (int64, api.Errno) {
	if others == api.MaxDeep {
		return 0, api.ErrDeep
	}
	if t.Kind != api.Var {
		return w.walked(t, others)
	}
	// Known by its place as well: deeper down the same Var may come to ErrDeep.
	here := place{t.N, others}
	if n, known := w.known[here]; known {
		return n, api.OK
	}
	t, e := subst.Walk(w.b, t)
	if e != api.OK {
		return 0, e
	}
	n, e := w.walked(t, others)
	if e == api.OK {
		w.known[here] = n
	}
	return n, e
}

// walked is the value of a term that has been walked.
func (w *work) walked(t api.Term, others int) (int64, api.Errno) {
	switch t.Kind {
	case api.Var:
		return 0, api.ErrInst
	case api.Int:
		return t.N, api.OK
	case api.Comp:
		return w.reckoned(t.Name, t.Args, others+1)
	}
	return 0, api.ErrType
}

// reckoned is what an operator makes of its Args, which stand in so many others. Whether there is such an operator is asked ahead
// of what they come to.
func (w *work) reckoned(name string, args []api.Term, others int) (int64, api.Errno) {
	switch len(args) {
	case 1:
		if do := ofOne(name); do != nil {
			x, e := w.value(args[0], others)
			if e != api.OK {
				return 0, e
			}
			return checked(do(x))
		}
	case 2:
		if do := ofTwo(name); do != nil {
			x, y, e := w.values(args[0], args[1], others)
			if e != api.OK {
				return 0, e
			}
			return checked(do(x, y))
		}
	}
	return 0, api.ErrType
}

// checked is what num answered, but that all its errors are one here.
func checked(n int64, e api.Errno) (int64, api.Errno) {
	if e != api.OK {
		return 0, api.ErrEval
	}
	return n, api.OK
}
