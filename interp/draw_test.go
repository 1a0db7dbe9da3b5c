package interp

import (
	"math/big"
	"slices"

	"lodestone/api"
)

// random draws the same numbers in each run.
type random uint64

func (r *random) below(n int) int {
	*r = *r*6364136223846793005 + 1442695040888963407
	return int(*r>>33) % n
}

// term draws a term over mixed, of at most about so many nodes, of that many variables.
func (r *random) term(nodes, vars int) []int {
	if nodes <= 1 {
		code := r.below(3 + vars)
		if code >= 3 {
			return row(2 - code)
		}
		return row(code)
	}
	code := 3 + r.below(5)
	t := row(code)
	arity := mixed()[code].Arity
	left := nodes - 1
	for i := range arity {
		size := left
		if i < arity-1 {
			size = 1 + r.below(left)
		}
		t = append(t, r.term(size, vars)...)
		left = max(1, left-size)
	}
	return t
}

// polynomial draws one of so many variables: most often of low degree.
func (r *random) polynomial(vars int) free {
	f := free{}
	for range r.below(4) {
		f.put(r.exponents(vars), r.coefficient())
	}
	return f
}

func (r *random) exponents(vars int) []int {
	exps := make([]int, vars)
	for i := range exps {
		switch n := r.below(40); {
		case n == 0:
			exps[i] = 2 + r.below(3)
		case n < 14:
			exps[i] = 1
		}
	}
	return exps
}

func (r *random) coefficient() *big.Int {
	n := big.NewInt(int64(1 + r.below(3)))
	switch r.below(20) {
	case 0:
		n.Lsh(n, uint(r.below(700)))
	case 1:
		n.Lsh(n, 32).Sub(n, big.NewInt(1))
	}
	return n
}

// interp draws a polynomial for each symbol, in a drawn order.
func (r *random) interp(sig []api.Symbol) []api.Interp {
	var l []api.Interp
	for code, s := range sig {
		p, _ := r.polynomial(s.Arity).row()
		l = append(l, api.Interp{Sym: code, P: p})
	}
	return r.shuffled(l)
}

// strict draws polynomials that rise with each argument.
func (r *random) strict(sig []api.Symbol) []api.Interp {
	var l []api.Interp
	for code, s := range sig {
		f := free{}
		if r.below(3) == 0 {
			f = r.polynomial(s.Arity)
		}
		f.put(nil, big.NewInt(int64(1+r.below(4))))
		for arg := range s.Arity {
			n := 1
			if r.below(15) == 0 {
				n = 2
			}
			f.put(append(make([]int, arg), n), big.NewInt(int64(1+r.below(3))))
		}
		p, _ := f.row()
		l = append(l, api.Interp{Sym: code, P: p})
	}
	return r.shuffled(l)
}

func (r *random) shuffled(l []api.Interp) []api.Interp {
	l = slices.Clone(l)
	for i := range l {
		j := r.below(i + 1)
		l[i], l[j] = l[j], l[i]
	}
	return l
}

// values draws a natural for each variable of some terms, by their codes; 0 is often among them.
func (r *random) values(terms ...[]int) map[int]*big.Int {
	at := map[int]*big.Int{}
	for _, code := range slices.Concat(terms...) {
		if at[code] == nil && code < 0 {
			at[code] = big.NewInt(int64(r.below(4)))
			if r.below(8) == 0 {
				at[code].Lsh(at[code], uint(r.below(100)))
			}
		}
	}
	return at
}

// inOrder are the values as poly.Value asks for them: of the variables as they are met in a term.
func inOrder(t []int, at map[int]*big.Int) [][]uint32 {
	out := make([][]uint32, len(numbers(t)))
	for code, n := range numbers(t) {
		out[n] = limbsOf(at[code])
	}
	return out
}

// renamed is a term with its variables' numbers changed, unlike ones to unlike ones.
func (r *random) renamed(t []int) []int {
	to := map[int]int{}
	used := map[int]struct{}{}
	u := slices.Clone(t)
	for i, code := range t {
		if code >= 0 {
			continue
		}
		for to[code] == 0 {
			other := -1 - r.below([]int{6, api.MaxVar}[r.below(2)])
			if _, ok := used[other]; !ok {
				used[other] = struct{}{}
				to[code] = other
			}
		}
		u[i] = to[code]
	}
	return u
}
