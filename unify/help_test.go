package unify

import (
	"slices"
	"strconv"
	"testing"

	"lodestone/api"
)

func sym(name string, arity int) api.Symbol { return api.Symbol{Name: name, Arity: arity} }

func row(codes ...int) []int { return codes }

func bind(v int, codes ...int) api.Bind { return api.Bind{Var: v, T: codes} }

func binds(s ...api.Bind) []api.Bind { return s }

// three is the document's signature.
func three() []api.Symbol { return []api.Symbol{sym("zero", 0), sym("s", 1), sym("plus", 2)} }

// all has a symbol of each arity: its code is its arity.
func all() []api.Symbol {
	var sig []api.Symbol
	for n := range api.MaxArity + 1 {
		sig = append(sig, sym("f"+strconv.Itoa(n), n))
	}
	return sig
}

func many(n int) []api.Symbol {
	var sig []api.Symbol
	for i := range n {
		sig = append(sig, sym("f"+strconv.Itoa(i), i%3))
	}
	return sig
}

// badSigs are signatures that may not be, with the error of each.
func badSigs() map[api.Errno][]api.Symbol {
	return map[api.Errno][]api.Symbol{
		api.ErrSigName:  {sym("zero", 0), sym("1", 1), sym("plus", 2)},
		api.ErrSigArity: {sym("zero", 0), sym("s", 1), sym("plus", 9)},
		api.ErrSigTwice: {sym("zero", 0), sym("s", 1), sym("s", 2)},
		api.ErrSigMany:  many(2*api.MaxSymbols + 1),
	}
}

// badRows are no terms over three, with the error of each.
func badRows() map[api.Errno][][]int {
	return map[api.Errno][][]int{
		api.ErrTermShort: {nil, {}, {1}, {2}, {2, 0}, {2, -1}, {2, 2, 0, 0}, tower(600, 1)},
		api.ErrTermCode:  {{3}, {1, 3}, {2, 0, 4}, {-api.MaxVar - 1}, {1, -1 << 63}, {1<<63 - 1}},
		api.ErrTermMore:  {{0, 0}, {-1, -1}, {1, 0, 1}, {-1, 99}, append(tower(600, 0), 3)},
	}
}

// tower is s of s .. of end, with n nodes in all; s has the code 1.
func tower(n, end int) []int { return append(slices.Repeat([]int{1}, n-1), end) }

// smallTerms are all terms over three with at most n nodes, of the variables from 0 on, as many as are asked for.
func smallTerms(n, vars int) [][]int {
	bySize := make([][][]int, n+1)
	bySize[1] = [][]int{{0}}
	for v := range vars {
		bySize[1] = append(bySize[1], row(-1-v))
	}
	for size := 2; size <= n; size++ {
		for _, a := range bySize[size-1] {
			bySize[size] = append(bySize[size], slices.Concat(row(1), a))
		}
		for left := 1; left <= size-2; left++ {
			for _, a := range bySize[left] {
				for _, b := range bySize[size-1-left] {
					bySize[size] = append(bySize[size], slices.Concat(row(2), a, b))
				}
			}
		}
	}
	return slices.Concat(bySize...)
}

// list is the term over three that has these terms as the left arguments of its plus, one below the other.
func list(terms ...[]int) []int {
	var t []int
	for _, u := range terms {
		t = append(append(t, 2), u...)
	}
	return append(t, 0)
}

// random draws the same numbers in each run.
type random uint64

func (r *random) below(n int) int {
	*r = *r*6364136223846793005 + 1442695040888963407
	return int(*r>>33) % n
}

// variables are those of drawn terms, the greatest among them.
func variables() []int { return []int{0, 1, 2, 3, 4, 77, api.MaxVar - 2, api.MaxVar - 1} }

// term draws a term over all, of at most about so many nodes.
func (r *random) term(nodes int) []int {
	if nodes <= 1 {
		if r.below(4) == 0 {
			return row(0)
		}
		return row(-1 - variables()[r.below(8)])
	}
	arity := r.below(api.MaxArity + 1)
	t := row(arity)
	for range arity {
		t = append(t, r.term(nodes/arity-r.below(2))...)
	}
	return t
}

// general draws a term of which binds make t: here and there a variable stands for a part of it, whose number is new, or, now and then, one that stands for the same part already.
func (r *random) general(t []int, s []api.Bind) ([]int, []api.Bind) {
	parts := subs(all(), t)
	var g []int
	for at := 0; at < len(t); {
		if r.below(4) > 0 {
			g = append(g, t[at])
			at++
			continue
		}
		i := slices.IndexFunc(s, func(b api.Bind) bool { return slices.Equal(b.T, parts[at]) })
		if i < 0 || r.below(3) == 0 {
			i = len(s)
			s = append(s, bind(1000+i, parts[at]...))
		}
		g = append(g, -1-s[i].Var)
		at += len(parts[at])
	}
	return g, s
}

// subs are the terms at the places of a term.
func subs(sig []api.Symbol, t []int) [][]int {
	var l [][]int
	for at := range t {
		missing, end := 1, at
		for missing > 0 {
			missing--
			if t[end] >= 0 {
				missing += sig[t[end]].Arity
			}
			end++
		}
		l = append(l, t[at:end])
	}
	return l
}

// varsOf are the variables of terms, rising.
func varsOf(terms ...[]int) []int {
	var l []int
	for _, code := range slices.Concat(terms...) {
		if code < 0 && !slices.Contains(l, -1-code) {
			l = append(l, -1-code)
		}
	}
	slices.Sort(l)
	return l
}

// bindsOver are all binds of variables to the terms of a list.
func bindsOver(vars []int, terms [][]int) [][]api.Bind {
	l := [][]api.Bind{nil}
	for _, v := range vars {
		var longer [][]api.Bind
		for _, s := range l {
			for _, u := range terms {
				longer = append(longer, append(slices.Clone(s), bind(v, u...)))
			}
		}
		l = longer
	}
	return l
}

// made is what binds make of a term, each code in its turn.
func made(s []api.Bind, t []int) []int {
	var l []int
	for _, code := range t {
		i := slices.IndexFunc(s, func(b api.Bind) bool { return b.Var == -1-code })
		if code < 0 && i >= 0 {
			l = append(l, s[i].T...)
		} else {
			l = append(l, code)
		}
	}
	return l
}

// plain unifies as textbooks do: where the rows first differ, a variable is bound, in all that is there, so that one more variable is gone. Of two variables the greater number is bound.
func plain(sig []api.Symbol, a, b []int) ([]api.Bind, bool) {
	var s []api.Bind
	for !slices.Equal(a, b) {
		at := 0
		for a[at] == b[at] {
			at++
		}
		x, y := subs(sig, a)[at], subs(sig, b)[at]
		if y[0] < x[0] { // a variable's code is below all symbols', the greater its number the lower
			x, y = y, x
		}
		if x[0] >= 0 || slices.Contains(y, x[0]) {
			return nil, false
		}
		one := binds(bind(-1-x[0], y...))
		a, b = made(one, a), made(one, b)
		for i := range s {
			s[i].T = made(one, s[i].T)
		}
		s = append(s, one[0])
	}
	slices.SortFunc(s, func(x, y api.Bind) int { return x.Var - y.Var })
	return s, true
}

func sameBinds(a, b []api.Bind) bool {
	return slices.EqualFunc(a, b, func(x, y api.Bind) bool { return x.Var == y.Var && slices.Equal(x.T, y.T) })
}

// holds tells whether the calls answer so over a signature, either way round.
func holds(t *testing.T, sig []api.Symbol, a, b []int, want []api.Bind, e api.Errno) {
	t.Helper()
	can := e == api.OK || e == api.ErrTooBig
	for _, x := range [][2][]int{{a, b}, {b, a}} {
		if s, f := Unify(sig, x[0], x[1]); f != e || !sameBinds(s, want) {
			t.Fatalf("Unify(%v, %v): %v, %v, want %v, %v", x[0], x[1], s, f, want, e)
		}
		if Can(sig, x[0], x[1]) != can {
			t.Fatalf("Can(%v, %v): %v", x[0], x[1], !can)
		}
	}
}

// binding holds the binds that are answered over three.
func binding(t *testing.T, a, b []int, want ...api.Bind) {
	t.Helper()
	holds(t, three(), a, b, want, api.OK)
}

// failing holds the error that is answered over three.
func failing(t *testing.T, a, b []int, e api.Errno) {
	t.Helper()
	holds(t, three(), a, b, nil, e)
}
