package overlap

import (
	"slices"

	"lodestone/api"
)

// random draws the same numbers in each run.
type random uint64

func (r *random) below(n int) int {
	*r = *r*6364136223846793005 + 1442695040888963407
	return int(*r>>33) % n
}

// variables are those of drawn terms, the greatest among them; so few that a term often has one twice, and two rules have them in common.
func variables() []int { return []int{0, 1, 77, api.MaxVar - 1} }

// term draws a term over all, of at most about so many nodes, whose variables are those of a list.
func (r *random) term(nodes int, vars []int) []int {
	if nodes <= 1 {
		if r.below(4) == 0 || len(vars) == 0 {
			return row(0)
		}
		return row(-1 - vars[r.below(len(vars))])
	}
	arity := r.below(4)
	t := row(arity)
	for range arity {
		t = append(t, r.term(nodes/arity-r.below(2), vars)...)
	}
	return t
}

// rule draws a right rule over all.
func (r *random) rule(left []int) api.Rule {
	var vars []int
	for _, code := range left {
		if code < 0 {
			vars = append(vars, -1-code)
		}
	}
	return rule(left, r.term(1+r.below(10), vars))
}

// system draws a right system over all. Many a left side is one that overlaps with the one ahead of it.
func (r *random) system() api.System {
	s := api.System{Sig: all()}
	for i := range 1 + r.below(5) {
		left := r.term(2+r.below(9), variables())
		if i > 0 && r.below(2) == 0 {
			left = r.within(s.Rules[i-1].L)
		}
		s.Rules = append(s.Rules, r.rule(left))
	}
	return s
}

// within draws a term that begins as a part of another one that is no variable.
func (r *random) within(t []int) []int {
	at := r.below(len(t))
	for t[at] < 0 {
		at = r.below(len(t))
	}
	var u []int
	part := partAt(all(), t, at)
	for at := 0; at < len(part); {
		switch {
		case at > 0 && r.below(6) == 0:
			u = append(u, -1-variables()[r.below(4)])
			at += len(partAt(all(), part, at))
		case part[at] < 0 && r.below(2) == 0:
			u = append(u, r.term(1+r.below(4), variables())...)
			at++
		default:
			u = append(u, part[at])
			at++
		}
	}
	return u
}

// renamed is a rule whose variables have other numbers, each its own.
func renamed(a api.Rule) api.Rule {
	other := func(t []int) []int {
		u := slices.Clone(t)
		for i, code := range u {
			if code < 0 {
				u[i] = -api.MaxVar - 1 - code
			}
		}
		return u
	}
	return rule(other(a.L), other(a.R))
}
