package term

import (
	"iter"

	"spinney/api"
)

// Parts and pairs keep what is left in a slice of their own and do not call themselves: the terms that they are asked of
// may be deeper than Go's stack bears.

// parts goes through a term and all that it is made of, each ahead of its Args, from the left, and tells at which depth it
// stands.
func parts(t api.Term) iter.Seq2[int, api.Term] {
	return func(yield func(int, api.Term) bool) {
		// One list a depth: what is still to be met there.
		left := [][]api.Term{{t}}
		for len(left) > 0 {
			depth := len(left)
			list := left[depth-1]
			if len(list) == 0 {
				left = left[:depth-1]
				continue
			}
			left[depth-1] = list[1:]
			if !yield(depth, list[0]) {
				return
			}
			left = append(left, list[0].Args)
		}
	}
}

// vars goes through the numbers of a term's Vars, place by place.
func vars(t api.Term) iter.Seq[int64] {
	return func(yield func(int64) bool) {
		for _, part := range parts(t) {
			if part.Kind == api.Var && !yield(part.N) {
				return
			}
		}
	}
}

// sides are lists of two terms that are gone through side by side.
type sides struct {
	a, b []api.Term
}

// pairs goes through two terms as parts goes through one, side by side, as far as both have Args: whoever asks for the
// pairs looks whether one has more of them.
func pairs(a, b api.Term) iter.Seq2[api.Term, api.Term] {
	return func(yield func(a, b api.Term) bool) {
		left := []sides{{[]api.Term{a}, []api.Term{b}}}
		for len(left) > 0 {
			last := len(left) - 1
			lists := left[last]
			if len(lists.a) == 0 || len(lists.b) == 0 {
				left = left[:last]
				continue
			}
			left[last] = sides{lists.a[1:], lists.b[1:]}
			x, y := lists.a[0], lists.b[0]
			if !yield(x, y) {
				return
			}
			left = append(left, sides{x.Args, y.Args})
		}
	}
}
