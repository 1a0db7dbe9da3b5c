package norm

import (
	"slices"

	"lodestone/api"
	"lodestone/lpo"
	"lodestone/prec"
)

// random draws the same numbers in each run.
type random uint64

func (r *random) below(n int) int {
	*r = *r*6364136223846793005 + 1442695040888963407
	return int(*r>>33) % n
}

// mixed has symbols of several arities: zero 0, s 1, c 2, f 3, g 4.
func mixed() []api.Symbol {
	return []api.Symbol{sym("zero", 0), sym("s", 1), sym("c", 2), sym("f", 1), sym("g", 2)}
}

// term draws a term over mixed of at most so many nodes, of the variables from 0 on, as many as are asked for.
func (r *random) term(nodes, vars int) []int {
	if nodes <= 1 || r.below(8) == 0 {
		return row(r.below(vars+1) - vars)
	}
	code := 1 + r.below(4)
	t := row(code)
	arity := mixed()[code].Arity
	for range arity {
		t = append(t, r.term((nodes-1)/arity, vars)...)
	}
	return t
}

// above draws an order of all symbols.
func (r *random) above(n int) [][2]int {
	var order []int
	for i := range n {
		order = slices.Insert(order, r.below(i+1), i)
	}
	var l [][2]int
	for i := 1; i < n; i++ {
		l = append(l, [2]int{order[i-1], order[i]})
	}
	return l
}

// system draws rules over mixed, and turns them as a drawn order says: that is the certificate.
func (r *random) system() (api.System, []api.Node) {
	s := api.System{Sig: mixed()}
	l := r.above(len(s.Sig))
	p, _ := prec.Close(len(s.Sig), l)
	most := 1 + r.below(8)
	for len(s.Rules) < most {
		a := rule(r.term(2+r.below(5), 2), r.term(1+r.below(16), 2))
		if r.below(2) == 0 {
			a = r.recursion()
		}
		switch lpo.Orient(s.Sig, p, a) {
		case 1:
			s.Rules = append(s.Rules, a)
		case -1:
			s.Rules = append(s.Rules, rule(a.R, a.L))
		}
	}
	return s, paths(l...)
}

// recursion draws a rule by which f, or g, goes down what stands first in it, as often as is drawn.
func (r *random) recursion() api.Rule {
	l, call := row(3, 1, -1), row(3, -1)
	switch r.below(3) {
	case 0:
		l, call = row(4, 1, -1, -2), row(4, -1, -2)
	case 1:
		l, call = row(4, 2, -1, -2, -3), row(4, -2, -3)
	}
	var t []int
	for _, code := range r.term(1+r.below(10), 1) {
		if code < 0 && r.below(3) > 0 {
			t = append(t, call...)
		} else {
			t = append(t, code)
		}
	}
	return rule(l, t)
}

// subject draws a term over a system's signature, mixed or another one, in which left sides stand, with binds, and left sides within these.
func (r *random) subject(s api.System) []int {
	for {
		if u := r.nested(s, 1+r.below(6), 2); len(u) <= 60 {
			return u
		}
	}
}

func (r *random) nested(s api.System, nodes, depth int) []int {
	switch {
	case depth > 0 && len(s.Rules) > 0 && r.below(2) == 0:
		l := s.Rules[r.below(len(s.Rules))].L
		binds := map[int][]int{}
		for _, code := range l {
			if code < 0 && binds[code] == nil {
				binds[code] = r.nested(s, 1+r.below(4), depth-1)
			}
		}
		return laid(l, binds)
	case nodes <= 1:
		return r.leaf(s)
	}
	code := r.below(len(s.Sig))
	t := row(code)
	for range s.Sig[code].Arity {
		t = append(t, r.nested(s, nodes/s.Sig[code].Arity-r.below(2), depth)...)
	}
	return t
}

// leaf draws a symbol without arguments, if there is one, or a variable, the greatest one among them.
func (r *random) leaf(s api.System) []int {
	at := slices.IndexFunc(s.Sig, func(a api.Symbol) bool { return a.Arity == 0 })
	if at >= 0 && r.below(2) == 0 {
		return row(at)
	}
	if s.Sig[1].Arity == 1 && r.below(4) == 0 {
		return tower(2+r.below(8), -1)
	}
	return row(row(-1, -2, -3, -api.MaxVar)[r.below(4)])
}

// laid lays terms in the places of variables; one that has none stays.
func laid(t []int, binds map[int][]int) []int {
	var u []int
	for _, code := range t {
		if b := binds[code]; code < 0 && b != nil {
			u = append(u, b...)
		} else {
			u = append(u, code)
		}
	}
	return u
}

// smallTerms are all terms over three with at most n nodes, of the variables from 0 on, as many as are asked for.
func smallTerms(n, vars int) [][]int {
	bySize := make([][][]int, n+1)
	bySize[1] = [][]int{{0}}
	for v := range vars {
		bySize[1] = append(bySize[1], row(-1-v))
	}
	for size := 2; size <= n; size++ {
		for _, a := range bySize[size-1] {
			bySize[size] = append(bySize[size], slices.Concat(row(1), a))
		}
		for left := 1; left <= size-2; left++ {
			for _, a := range bySize[left] {
				for _, b := range bySize[size-1-left] {
					bySize[size] = append(bySize[size], slices.Concat(row(2), a, b))
				}
			}
		}
	}
	return slices.Concat(bySize...)
}
