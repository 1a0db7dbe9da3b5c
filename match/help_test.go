package match

import (
	"slices"
	"strconv"
	"testing"

	"lodestone/api"
	"lodestone/subst"
)

func sym(name string, arity int) api.Symbol { return api.Symbol{Name: name, Arity: arity} }

func row(codes ...int) []int { return codes }

func bind(v int, codes ...int) api.Bind { return api.Bind{Var: v, T: codes} }

func binds(s ...api.Bind) []api.Bind { return s }

func rule(l, r []int) api.Rule { return api.Rule{L: l, R: r} }

// three is the document's signature.
func three() []api.Symbol { return []api.Symbol{sym("zero", 0), sym("s", 1), sym("plus", 2)} }

// all has a symbol of each arity: its code is its arity.
func all() []api.Symbol {
	var sig []api.Symbol
	for n := range api.MaxArity + 1 {
		sig = append(sig, sym("f"+strconv.Itoa(n), n))
	}
	return sig
}

func many(n int) []api.Symbol {
	var sig []api.Symbol
	for i := range n {
		sig = append(sig, sym("f"+strconv.Itoa(i), i%3))
	}
	return sig
}

// badSigs are signatures that may not be.
func badSigs() [][]api.Symbol {
	return [][]api.Symbol{
		{sym("zero", 0), sym("1", 1), sym("plus", 2)},
		{sym("zero", 0), sym("s", 1), sym("plus", 2), sym("f", 9)},
		{sym("zero", 0), sym("s", 1), sym("plus", 2), sym("f", -1)},
		{sym("zero", 0), sym("s", 1), sym("s", 2)},
		many(2*api.MaxSymbols + 1),
	}
}

// badRows are no terms over three.
func badRows() [][]int {
	return [][]int{
		nil, {}, {1}, {2, 0}, {2, -1}, {2, 2, 0, 0}, tower(600, 1),
		{3}, {1, 3}, {2, 0, 4}, {-api.MaxVar - 1}, {1, -1 << 63}, {1<<63 - 1},
		{0, 0}, {-1, -1}, {1, 0, 1}, {-1, 99}, append(tower(600, 0), 3),
	}
}

// tower is s of s .. of end, with n nodes in all; s has the code 1.
func tower(n, end int) []int { return append(slices.Repeat([]int{1}, n-1), end) }

// smallTerms are all terms over three with at most n nodes, of the variables from 0 on, as many as are asked for.
func smallTerms(n, vars int) [][]int {
	bySize := make([][][]int, n+1)
	bySize[1] = [][]int{{0}}
	for v := range vars {
		bySize[1] = append(bySize[1], row(-1-v))
	}
	for size := 2; size <= n; size++ {
		for _, a := range bySize[size-1] {
			bySize[size] = append(bySize[size], slices.Concat(row(1), a))
		}
		for left := 1; left <= size-2; left++ {
			for _, a := range bySize[left] {
				for _, b := range bySize[size-1-left] {
					bySize[size] = append(bySize[size], slices.Concat(row(2), a, b))
				}
			}
		}
	}
	return slices.Concat(bySize...)
}

// smallRules are all rules, or equations, of two terms over three with at most so many nodes, of the variables 0, 1 and 2.
func smallRules(left, right int) []api.Rule {
	var l []api.Rule
	for _, a := range smallTerms(left, 3) {
		for _, b := range smallTerms(right, 3) {
			l = append(l, rule(a, b))
		}
	}
	return l
}

// random draws the same numbers in each run.
type random uint64

func (r *random) below(n int) int {
	*r = *r*6364136223846793005 + 1442695040888963407
	return int(*r>>33) % n
}

// variables are those of drawn terms, the greatest among them.
func variables() []int { return []int{0, 1, 2, 3, 4, 77, api.MaxVar - 2, api.MaxVar - 1} }

// term draws a term over all, of at most about so many nodes.
func (r *random) term(nodes int) []int {
	if nodes <= 1 {
		if r.below(4) == 0 {
			return row(0)
		}
		return row(-1 - variables()[r.below(8)])
	}
	arity := r.below(api.MaxArity + 1)
	t := row(arity)
	for range arity {
		t = append(t, r.term(nodes/arity-r.below(2))...)
	}
	return t
}

// binds draws right binds over all.
func (r *random) binds() []api.Bind {
	var s []api.Bind
	for _, v := range variables() {
		if r.below(3) > 0 {
			s = append(s, bind(v, r.term(1+r.below(7))...))
		}
	}
	return s
}

// renamed gives the variables of a drawn rule each another one's name.
func (r *random) renamed(a api.Rule) api.Rule {
	turn := 1 + r.below(7)
	var s []api.Bind
	for i, v := range variables() {
		s = append(s, bind(v, -1-variables()[(i+turn)%8]))
	}
	return rule(made(s, a.L), made(s, a.R))
}

// applied is subst.Apply, of what it must take.
func applied(t *testing.T, sig []api.Symbol, s []api.Bind, u []int) []int {
	t.Helper()
	v, e := subst.Apply(sig, s, u)
	if e != api.OK {
		t.Fatalf("Apply(%v; %v): %v", s, u, e)
	}
	return v
}

// subs are the terms at the places of a term.
func subs(sig []api.Symbol, t []int) [][]int {
	var l [][]int
	for at := range t {
		missing, end := 1, at
		for missing > 0 {
			missing--
			if t[end] >= 0 {
				missing += sig[t[end]].Arity
			}
			end++
		}
		l = append(l, t[at:end])
	}
	return l
}

// varsOf are the variables of a term, rising.
func varsOf(t []int) []int {
	var l []int
	for _, code := range t {
		if code < 0 && !slices.Contains(l, -1-code) {
			l = append(l, -1-code)
		}
	}
	slices.Sort(l)
	return l
}

// bindsOver are all binds of variables to the terms of a list.
func bindsOver(vars []int, terms [][]int) [][]api.Bind {
	l := [][]api.Bind{nil}
	for _, v := range vars {
		var longer [][]api.Bind
		for _, s := range l {
			for _, u := range terms {
				longer = append(longer, append(slices.Clone(s), bind(v, u...)))
			}
		}
		l = longer
	}
	return l
}

// made is what binds make of a term, each code in its turn.
func made(s []api.Bind, t []int) []int {
	var l []int
	for _, code := range t {
		i := slices.IndexFunc(s, func(b api.Bind) bool { return b.Var == -1-code })
		if code < 0 && i >= 0 {
			l = append(l, s[i].T...)
		} else {
			l = append(l, code)
		}
	}
	return l
}

func sameBinds(a, b []api.Bind) bool {
	return slices.EqualFunc(a, b, func(x, y api.Bind) bool { return x.Var == y.Var && slices.Equal(x.T, y.T) })
}
