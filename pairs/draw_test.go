package pairs

import (
	"slices"

	"lodestone/api"
)

// random draws the same numbers in each run.
type random uint64

func (r *random) below(n int) int {
	*r = *r*6364136223846793005 + 1442695040888963407
	return int(*r>>33) % n
}

// variables are those of drawn terms, the greatest among them; so few that a term often has one twice.
func variables() []int { return []int{0, 1, 77, api.MaxVar - 1} }

// term draws a term over all, of at most about so many nodes; what stands at its ends is drawn by leaf.
func (r *random) term(nodes int, leaf func() []int) []int {
	if nodes <= 1 {
		return leaf()
	}
	arity := r.below(4)
	t := row(arity)
	for range arity {
		t = append(t, r.term(nodes/arity-r.below(2), leaf)...)
	}
	return t
}

// leafOf draws a variable of a list, now and then the symbol without arguments.
func (r *random) leafOf(vars []int) func() []int {
	return func() []int {
		if r.below(4) == 0 || len(vars) == 0 {
			return row(0)
		}
		return row(-1 - vars[r.below(len(vars))])
	}
}

// rule draws a right rule over all.
func (r *random) rule() api.Rule {
	l := r.term(2+r.below(8), r.leafOf(variables()))
	var vars []int
	for _, code := range l {
		if code < 0 {
			vars = append(vars, -1-code)
		}
	}
	return rule(l, r.term(1+r.below(10), r.leafOf(vars)))
}

// system draws a right system over all; not all of its symbols are defined.
func (r *random) system() api.System {
	s := api.System{Sig: all()}
	kept := 1 + r.below(3)
	for range r.below(6) {
		if a := r.rule(); a.L[0] != kept {
			s.Rules = append(s.Rules, a)
		}
	}
	return s
}

// binds draws right binds over all, whose terms are drawn by leaf.
func (r *random) binds(leaf func() []int) []api.Bind {
	var s []api.Bind
	for _, v := range variables() {
		if r.below(4) > 0 {
			s = append(s, bind(v, leaf()...))
		}
	}
	return s
}

// subject draws a term in which left sides of a system stand, with binds, and left sides within these; great ones are drawn anew.
func (r *random) subject(s api.System, nodes int) []int {
	for {
		if u := r.nested(s, nodes, 2); len(u) <= 60 {
			return u
		}
	}
}

// nested has left sides within left sides as often as depth tells.
func (r *random) nested(s api.System, nodes, depth int) []int {
	return r.term(nodes, func() []int {
		if depth == 0 || len(s.Rules) == 0 || r.below(3) == 0 {
			return r.leafOf(variables())()
		}
		l := s.Rules[r.below(len(s.Rules))].L
		return made(r.binds(func() []int { return r.nested(s, 1+r.below(3), depth-1) }), l)
	})
}

// side draws a term over all's extended signature whose root is marked; now and then another symbol of it is marked, too.
func (r *random) side(s api.System) []int {
	for {
		t := r.subject(s, 2+r.below(10))
		if t[0] < 0 {
			continue
		}
		t[0] += len(s.Sig)
		if at := r.below(len(t)); r.below(3) == 0 && t[at] >= 0 && t[at] < len(s.Sig) {
			t[at] += len(s.Sig)
		}
		return t
	}
}

// pairs draws pairs that need not be the system's own; now and then a side is wrong.
func (r *random) pairs(s api.System, n int) []api.Rule {
	var l []api.Rule
	for range n {
		p := rule(r.side(s), r.side(s))
		if r.below(10) == 0 {
			p.L = p.L[:r.below(len(p.L))]
		}
		if r.below(10) == 0 {
			p.R[0] -= len(s.Sig)
		}
		l = append(l, p)
	}
	return l
}

// general draws a term of which binds make t: here and there below its root a variable stands for a part of it, whose number is new, or that of one which stands for the same part already.
func (r *random) general(sig []api.Symbol, t []int) ([]int, []api.Bind) {
	g := row(t[0])
	var s []api.Bind
	for at := 1; at < len(t); {
		if r.below(4) > 0 && t[at] >= 0 {
			g = append(g, t[at])
			at++
			continue
		}
		part := partAt(sig, t, at)
		i := slices.IndexFunc(s, func(b api.Bind) bool { return slices.Equal(b.T, part) })
		if i < 0 || r.below(3) == 0 {
			i = len(s)
			s = append(s, bind(i, part...))
		}
		g = append(g, -1-s[i].Var)
		at += len(part)
	}
	return g, s
}

// rewritten goes so many steps, each drawn among all that are below the root, or as many as there are.
func (r *random) rewritten(s api.System, t []int, steps int) []int {
	for range steps {
		next := allSteps(s, t)
		if len(next) == 0 {
			break
		}
		t = next[r.below(len(next))]
	}
	return t
}
