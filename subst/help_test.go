package subst

import (
	"slices"
	"strconv"
	"testing"

	"lodestone/api"
)

func sym(name string, arity int) api.Symbol { return api.Symbol{Name: name, Arity: arity} }

func row(codes ...int) []int { return codes }

func bind(v int, codes ...int) api.Bind { return api.Bind{Var: v, T: codes} }

func binds(s ...api.Bind) []api.Bind { return s }

// three is the document's signature.
func three() []api.Symbol { return []api.Symbol{sym("zero", 0), sym("s", 1), sym("plus", 2)} }

// all has a symbol of each arity: its code is its arity.
func all() []api.Symbol {
	var sig []api.Symbol
	for n := range api.MaxArity + 1 {
		sig = append(sig, sym("f"+strconv.Itoa(n), n))
	}
	return sig
}

func many(n int) []api.Symbol {
	var sig []api.Symbol
	for i := range n {
		sig = append(sig, sym("f"+strconv.Itoa(i), i%3))
	}
	return sig
}

// badSigs are signatures that may not be, with the error of each.
func badSigs() map[api.Errno][]api.Symbol {
	return map[api.Errno][]api.Symbol{
		api.ErrSigName:  {sym("zero", 0), sym("1", 1), sym("plus", 2)},
		api.ErrSigArity: {sym("zero", 0), sym("s", 1), sym("plus", 9)},
		api.ErrSigTwice: {sym("zero", 0), sym("s", 1), sym("s", 2)},
		api.ErrSigMany:  many(2*api.MaxSymbols + 1),
	}
}

// badRows are no terms over three, with the error of each.
func badRows() map[api.Errno][][]int {
	return map[api.Errno][][]int{
		api.ErrTermShort: {nil, {1}, {2, 0}, {2, -1}, tower(600, 1)},
		api.ErrTermCode:  {{3}, {1, 3}, {2, 0, 4}, {-api.MaxVar - 1}, {1, -1 << 63}, {1<<63 - 1}},
		api.ErrTermMore:  {{0, 0}, {-1, -1}, {1, 0, 1}, {-1, 99}, append(tower(600, 0), 3)},
	}
}

// tower is s of s .. of end, with n nodes in all; s has the code 1.
func tower(n, end int) []int { return append(slices.Repeat([]int{1}, n-1), end) }

// comb is plus(x, plus(x, .. x)) of the variable 0, which stands in it n times; it has 2n - 1 nodes.
func comb(n int) []int { return append(slices.Repeat([]int{2, -1}, n-1), -1) }

// smallTerms are all terms over three with at most n nodes, of the variables 0 and 1.
func smallTerms(n int) [][]int {
	bySize := make([][][]int, n+1)
	bySize[1] = [][]int{{0}, {-1}, {-2}}
	for size := 2; size <= n; size++ {
		for _, a := range bySize[size-1] {
			bySize[size] = append(bySize[size], slices.Concat(row(1), a))
		}
		for left := 1; left <= size-2; left++ {
			for _, a := range bySize[left] {
				for _, b := range bySize[size-1-left] {
					bySize[size] = append(bySize[size], slices.Concat(row(2), a, b))
				}
			}
		}
	}
	return slices.Concat(bySize...)
}

// smallBinds are all binds of none, one and both of the variables 0 and 1, to terms of at most 3 nodes.
func smallBinds() [][]api.Bind {
	l := [][]api.Bind{nil}
	terms := smallTerms(3)
	for _, a := range terms {
		l = append(l, binds(bind(0, a...)), binds(bind(1, a...)))
		for _, b := range terms {
			l = append(l, binds(bind(0, a...), bind(1, b...)))
		}
	}
	return l
}

// random draws the same numbers in each run.
type random uint64

func (r *random) below(n int) int {
	*r = *r*6364136223846793005 + 1442695040888963407
	return int(*r>>33) % n
}

// variable draws one of eight numbers, the greatest among them.
func (r *random) variable() int {
	return []int{0, 1, 2, 3, 4, 77, api.MaxVar - 2, api.MaxVar - 1}[r.below(8)]
}

// term draws a term over all, of at most about so many nodes.
func (r *random) term(nodes int) []int {
	if nodes <= 1 {
		if r.below(4) == 0 {
			return row(0)
		}
		return row(-1 - r.variable())
	}
	arity := r.below(api.MaxArity + 1)
	t := row(arity)
	for range arity {
		t = append(t, r.term(nodes/arity-r.below(2))...)
	}
	return t
}

// binds draws right binds over all.
func (r *random) binds() []api.Bind {
	var s []api.Bind
	for _, v := range []int{0, 1, 2, 3, 4, 5, 77, api.MaxVar - 2, api.MaxVar - 1} {
		if r.below(2) == 0 {
			s = append(s, bind(v, r.term(1+r.below(7))...))
		}
	}
	return s
}

// apply is Apply over all, of what it must take.
func apply(t *testing.T, s []api.Bind, u []int) []int {
	t.Helper()
	v, e := Apply(all(), s, u)
	if e != api.OK {
		t.Fatalf("Apply(%v; %v): %v", s, u, e)
	}
	return v
}

func shift(t *testing.T, u []int, by int) []int {
	t.Helper()
	v, e := Shift(u, by)
	if e != api.OK {
		t.Fatalf("Shift(%v, %d): %v", u, by, e)
	}
	return v
}

// madeOf says by the definition what binds make of the term with which a row begins, and what stands behind it.
func madeOf(sig []api.Symbol, s []api.Bind, u []int) (made, rest []int) {
	code := u[0]
	if code < 0 {
		for _, b := range s {
			if b.Var == -1-code {
				return b.T, u[1:]
			}
		}
		return u[:1], u[1:]
	}
	made, rest = row(code), u[1:]
	for range sig[code].Arity {
		var arg []int
		arg, rest = madeOf(sig, s, rest)
		made = append(made, arg...)
	}
	return made, rest
}

// args are the terms behind the root's code of a term that is no variable.
func args(sig []api.Symbol, u []int) [][]int {
	var l [][]int
	rest := u[1:]
	for range sig[u[0]].Arity {
		_, behind := madeOf(sig, nil, rest)
		l = append(l, rest[:len(rest)-len(behind)])
		rest = behind
	}
	return l
}

func sameRows(a, b [][]int) bool { return slices.EqualFunc(a, b, slices.Equal[[]int]) }
