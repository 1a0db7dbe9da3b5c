package overlap

import (
	"slices"

	"lodestone/api"
	"lodestone/subst"
	"lodestone/unify"
)

// apart are two right rules, their variables numbered so that they have none in common. Each rule has fewer than MaxNodes of them, so all are far below MaxVar.
func apart(outer, inner api.Rule) (api.Rule, api.Rule) {
	a := subst.Canon(outer.L, outer.R)
	b := subst.Canon(inner.L, inner.R)
	l, _ := subst.Shift(b[0], api.MaxNodes)
	r, _ := subst.Shift(b[1], api.MaxNodes)
	return api.Rule{L: a[0], R: a[1]}, api.Rule{L: l, R: r}
}

// unifier answers of a place of a right term what unify.Unify says of the term there and of another one.
func unifier(sig []api.Symbol, t, ends []int, other []int) func(at int) ([]api.Bind, api.Errno) {
	otherEnds := endsOf(sig, other)
	return func(at int) ([]api.Bind, api.Errno) {
		// Unlike symbols are soon seen, and unify.Unify, which looks at the whole signature each time, is seldom asked in vain.
		if clash(t, ends, at, other, otherEnds) {
			return nil, api.ErrUnifyNone
		}
		return unify.Unify(sig, t[at:ends[at]], other)
	}
}

// endsOf tells of each place of a right term where the term there ends.
func endsOf(sig []api.Symbol, t []int) []int {
	ends := make([]int, len(t))
	for at, code := range slices.Backward(t) {
		end := at + 1
		if code >= 0 {
			for range sig[code].Arity {
				end = ends[end]
			}
		}
		ends[at] = end
	}
	return ends
}

// clash tells whether the term at a place and another one come to unlike symbols, before one of them comes to a variable: no binds change these.
func clash(t, ends []int, at int, other, otherEnds []int) bool {
	for k := 0; k < len(other); {
		switch {
		case t[at] < 0 || other[k] < 0:
			at, k = ends[at], otherEnds[k]
		case t[at] != other[k]:
			return true
		default:
			at, k = at+1, k+1
		}
	}
	return false
}
