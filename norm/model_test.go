package norm

import (
	"slices"

	"lodestone/api"
)

// partAt is the term at a place.
func partAt(sig []api.Symbol, t []int, at int) []int {
	missing, end := 1, at
	for missing > 0 {
		missing--
		if t[end] >= 0 {
			missing += sig[t[end]].Arity
		}
		end++
	}
	return t[at:end]
}

// kidsOf are the arguments at a term's root.
func kidsOf(sig []api.Symbol, t []int) [][]int {
	var l [][]int
	for at := 1; at < len(t); at += len(l[len(l)-1]) {
		l = append(l, partAt(sig, t, at))
	}
	return l
}

// plainBinds goes through a left side and a term side by side: a variable takes the term that it comes to.
func plainBinds(sig []api.Symbol, l, part []int) (map[int][]int, bool) {
	binds := map[int][]int{}
	place := 0
	for _, code := range l {
		here := partAt(sig, part, place)
		switch {
		case code >= 0 && here[0] != code, code < 0 && binds[code] != nil && !slices.Equal(binds[code], here):
			return nil, false
		case code >= 0:
			place++
		default:
			binds[code] = here
			place += len(here)
		}
	}
	return binds, true
}

// plainAll are the redexes of a term: each rule is tried at each place.
func plainAll(s api.System, t []int) []api.Redex {
	var l []api.Redex
	for at := range t {
		for i, r := range s.Rules {
			if _, ok := plainBinds(s.Sig, r.L, partAt(s.Sig, t, at)); ok {
				l = append(l, api.Redex{At: at, Rule: i})
			}
		}
	}
	return l
}

// plainFirst is the number of the first of all redexes below which there is none.
func plainFirst(s api.System, t []int, all []api.Redex) int {
	return slices.IndexFunc(all, func(r api.Redex) bool {
		return !slices.ContainsFunc(all, func(other api.Redex) bool {
			return r.At < other.At && other.At < r.At+len(partAt(s.Sig, t, r.At))
		})
	})
}

// plainDo rewrites a redex, to a term of any size.
func plainDo(s api.System, t []int, r api.Redex) []int {
	part := partAt(s.Sig, t, r.At)
	binds, _ := plainBinds(s.Sig, s.Rules[r.Rule].L, part)
	return slices.Concat(t[:r.At], laid(s.Rules[r.Rule].R, binds), t[r.At+len(part):])
}

// plainPath are the terms of a term's innermost path, the term too, as far as one that is too big; at most so many: whether that is the whole path is told.
func plainPath(s api.System, t []int, most int) (path [][]int, whole bool) {
	path = append(path, t)
	for len(path) <= most && len(t) <= api.MaxNodes {
		all := plainAll(s, t)
		if len(all) == 0 {
			return path, true
		}
		t = plainDo(s, t, all[plainFirst(s, t, all)])
		path = append(path, t)
	}
	return path, len(t) > api.MaxNodes
}

// fromWithin is another reading of the innermost path: a term's arguments are brought down from the left to the right, then the whole, then what it has become. It tells the end, and how many nodes the greatest term of the path has, where so many stand around; it gives up behind so many steps.
type fromWithin struct {
	s       api.System
	steps   int
	most    int
	biggest int
}

func (w *fromWithin) down(t []int, around int) []int {
	for {
		w.biggest = max(w.biggest, around+len(t))
		if w.steps > w.most || w.biggest > api.MaxNodes {
			return t
		}
		t = w.downKids(t, around)
		i := slices.IndexFunc(w.s.Rules, func(r api.Rule) bool {
			_, ok := plainBinds(w.s.Sig, r.L, t)
			return ok
		})
		if i < 0 || w.steps > w.most || w.biggest > api.MaxNodes {
			return t
		}
		t = plainDo(w.s, t, api.Redex{Rule: i})
		w.steps++
	}
}

func (w *fromWithin) downKids(t []int, around int) []int {
	kids := kidsOf(w.s.Sig, t)
	size := len(t)
	for i, kid := range kids {
		kids[i] = w.down(kid, around+size-len(kid))
		size += len(kids[i]) - len(kid)
	}
	return append(row(t[0]), slices.Concat(kids...)...)
}
