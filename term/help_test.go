package term

import (
	"slices"
	"strconv"
	"strings"

	"lodestone/api"
)

func sym(name string, arity int) api.Symbol { return api.Symbol{Name: name, Arity: arity} }

func sigOf(symbols ...api.Symbol) []api.Symbol { return symbols }

func row(codes ...int) []int { return codes }

// three is the document's signature.
func three() []api.Symbol { return sigOf(sym("zero", 0), sym("s", 1), sym("plus", 2)) }

// all has a symbol of each arity: its code is its arity.
func all() []api.Symbol {
	var sig []api.Symbol
	for n := range api.MaxArity + 1 {
		sig = append(sig, sym("f"+strconv.Itoa(n), n))
	}
	return sig
}

// many is a right signature of n symbols, each second one marked.
func many(n int) []api.Symbol {
	var sig []api.Symbol
	for i := range n {
		name := "f" + strconv.Itoa(i/2)
		if i%2 == 1 {
			name += "#"
		}
		sig = append(sig, sym(name, i%(api.MaxArity+1)))
	}
	return sig
}

// tower is s of s .. of end, with n nodes in all; s has the code 1.
func tower(n, end int) []int { return append(slices.Repeat([]int{1}, n-1), end) }

// smallTerms are all terms over three with at most n nodes, of the variables 0 and 1.
func smallTerms(n int) [][]int {
	bySize := make([][][]int, n+1)
	for size := 1; size <= n; size++ {
		if size == 1 {
			bySize[1] = [][]int{{0}, {-1}, {-2}}
			continue
		}
		for _, a := range bySize[size-1] {
			bySize[size] = append(bySize[size], slices.Concat(row(1), a))
		}
		for left := 1; left <= size-2; left++ {
			for _, a := range bySize[left] {
				for _, b := range bySize[size-1-left] {
					bySize[size] = append(bySize[size], slices.Concat(row(2), a, b))
				}
			}
		}
	}
	return slices.Concat(bySize...)
}

// random draws the same numbers in each run.
type random uint64

func (r *random) below(n int) int {
	*r = *r*6364136223846793005 + 1442695040888963407
	return int(*r>>33) % n
}

// term draws a term over all, of at most about so many nodes.
func (r *random) term(nodes int) []int {
	if nodes <= 1 {
		return row(r.below(4) - 3)
	}
	arity := r.below(api.MaxArity + 1)
	t := row(arity)
	for range arity {
		t = append(t, r.term(nodes/arity-r.below(2))...)
	}
	return t
}

// someTerms are terms over all, of many shapes.
func someTerms() [][]int {
	l := [][]int{{0}, {-1}, {-api.MaxVar}, tower(2, 0), tower(40, -3), {8, 0, -1, 1, -2, -1, 0, 2, 0, 0, -5, 0}}
	r := random(3)
	for range 60 {
		l = append(l, r.term(1+r.below(60)))
	}
	return l
}

// spans says where each node's term ends, as the definition of a term does: by what stands behind its code.
func spans(sig []api.Symbol, t []int) []int {
	ends := make([]int, len(t))
	var read func(at int) int
	read = func(at int) int {
		next := at + 1
		if t[at] >= 0 {
			for range sig[t[at]].Arity {
				next = read(next)
			}
		}
		ends[at] = next
		return next
	}
	if read(0) != len(t) {
		panic("no term")
	}
	return ends
}

// above are the places whose terms have this one in them, and are not it.
func above(ends []int, at int) []int {
	var l []int
	for i := range at {
		if ends[i] > at {
			l = append(l, i)
		}
	}
	return l
}

// kids are the places that have this one as the lowest above them.
func kids(ends []int, at int) []int {
	var l []int
	for i := range ends {
		if up := above(ends, i); len(up) > 0 && up[len(up)-1] == at {
			l = append(l, i)
		}
	}
	return l
}

// badSigs are signatures that may not be, with the error of each.
func badSigs() map[api.Errno][]api.Symbol {
	return map[api.Errno][]api.Symbol{
		api.ErrSigName:  sigOf(sym("zero", 0), sym("1", 1), sym("plus", 2)),
		api.ErrSigArity: sigOf(sym("zero", 0), sym("s", 1), sym("plus", 9)),
		api.ErrSigTwice: sigOf(sym("zero", 0), sym("s", 1), sym("s", 2)),
		api.ErrSigMany:  many(2*api.MaxSymbols + 1),
	}
}

// badRows are no terms over three, with the error of each.
func badRows() map[api.Errno][][]int {
	return map[api.Errno][][]int{
		api.ErrTermShort: {nil, {1}, {2}, {2, 0}, {2, -1}, {2, 2, 0, 0}, tower(600, 1), {1, 2, 0}},
		api.ErrTermCode:  {{3}, {1, 3}, {2, 0, 4}, {2, 3}, {-api.MaxVar - 1}, {1, -1 << 63}, {1<<63 - 1}, {2, 99, 0, 0}, {3, 0}, {2, 0, 3, 0}},
		api.ErrTermMore:  {{0, 0}, {-1, -1}, {0, 99}, {-1, -1 << 63}, {1, 0, 1}, {2, 0, 0, 2}, append(tower(600, 0), 3)},
	}
}

// calls are the calls that ask for a place, with what they answer beside the error.
func calls(u []int) map[string]func(sig []api.Symbol, t []int, at int) ([]int, api.Errno) {
	return map[string]func(sig []api.Symbol, t []int, at int) ([]int, api.Errno){
		"Kids":  Kids,
		"Sub":   Sub,
		"Above": Above,
		"Replace": func(sig []api.Symbol, t []int, at int) ([]int, api.Errno) {
			return Replace(sig, t, at, u)
		},
	}
}

func letters(n int) string { return strings.Repeat("a", n) }
