package lpo

import (
	"slices"
	"strconv"
	"strings"
	"testing"

	"lodestone/api"
	"lodestone/prec"
	"lodestone/subst"
	"lodestone/term"
)

func sym(name string, arity int) api.Symbol { return api.Symbol{Name: name, Arity: arity} }

func row(codes ...int) []int { return codes }

func rule(l, r []int) api.Rule { return api.Rule{L: l, R: r} }

func pair(f, g int) [2]int { return [2]int{f, g} }

func pairs(l ...[2]int) [][2]int { return l }

// three is the document's signature.
func three() []api.Symbol { return []api.Symbol{sym("zero", 0), sym("s", 1), sym("plus", 2)} }

// all has a symbol of each arity: its code is its arity.
func all() []api.Symbol {
	var sig []api.Symbol
	for n := range api.MaxArity + 1 {
		sig = append(sig, sym("f"+strconv.Itoa(n), n))
	}
	return sig
}

// mixed has some symbols of each of the lower arities.
func mixed() []api.Symbol {
	return []api.Symbol{sym("a", 0), sym("b", 0), sym("c", 0), sym("f", 1), sym("g", 1), sym("h", 2), sym("k", 2), sym("m", 3)}
}

func many(n int) []api.Symbol {
	var sig []api.Symbol
	for i := range n {
		sig = append(sig, sym("f"+strconv.Itoa(i), i%3))
	}
	return sig
}

// badSigs are signatures that may not be; the first three symbols are three's, but where one of them is what is wrong.
func badSigs() [][]api.Symbol {
	return [][]api.Symbol{
		{sym("zero", 0), sym("1", 1), sym("plus", 2)},
		{sym("zero", 0), sym("s", 1), sym("s", 2)},
		append(three(), sym("f", 9)),
		append(three(), sym("f", -1)),
		append(three(), sym("f##", 1)),
		append(three(), sym("zero", 0)),
		append(three(), many(2*api.MaxSymbols-2)...),
	}
}

// badRows are no terms over three.
func badRows() [][]int {
	return [][]int{
		nil, {}, {1}, {2, 0}, {2, -1}, {2, 2, 0, 0}, tower(500, 1),
		{3}, {1, 3}, {2, 0, 4}, {-api.MaxVar - 1}, {1, -1 << 63}, {1<<63 - 1},
		{0, 0}, {-1, -1}, {1, 0, 1}, {-1, 99}, append(tower(500, 0), 3),
	}
}

// tower is s of s .. of end, with n nodes in all; s has the code 1.
func tower(n, end int) []int { return append(slices.Repeat([]int{1}, n-1), end) }

// closed is the precedence of as many symbols, of pairs that are no cycle.
func closed(t *testing.T, n int, l ...[2]int) *prec.Prec {
	t.Helper()
	p, e := prec.Close(n, l)
	if e != api.OK {
		t.Fatalf("Close(%d, %v): %v", n, l, e)
	}
	return p
}

// line is the pairs of symbols that stand one above the other, the highest first.
func line(symbols ...int) [][2]int {
	var l [][2]int
	for i := 1; i < len(symbols); i++ {
		l = append(l, pair(symbols[i-1], symbols[i]))
	}
	return l
}

func upTo(n int) []int {
	var l []int
	for i := range n {
		l = append(l, i)
	}
	return l
}

// ordersOfThree are all sets of pairs of three symbols that are no cycle.
func ordersOfThree() [][][2]int {
	whole := pairs(pair(0, 1), pair(1, 0), pair(0, 2), pair(2, 0), pair(1, 2), pair(2, 1))
	var l [][][2]int
	for set := range 1 << len(whole) {
		var some [][2]int
		for i, p := range whole {
			if set>>i&1 == 1 {
				some = append(some, p)
			}
		}
		if _, e := prec.Close(3, some); e == api.OK {
			l = append(l, some)
		}
	}
	return l
}

// smallTerms are all terms over three with at most n nodes, of the variables from 0 on, as many as are asked for.
func smallTerms(n, vars int) [][]int {
	bySize := make([][][]int, n+1)
	bySize[1] = [][]int{{0}}
	for v := range vars {
		bySize[1] = append(bySize[1], row(-1-v))
	}
	for size := 2; size <= n; size++ {
		for _, a := range bySize[size-1] {
			bySize[size] = append(bySize[size], slices.Concat(row(1), a))
		}
		for left := 1; left <= size-2; left++ {
			for _, a := range bySize[left] {
				for _, b := range bySize[size-1-left] {
					bySize[size] = append(bySize[size], slices.Concat(row(2), a, b))
				}
			}
		}
	}
	return slices.Concat(bySize...)
}

// subs are the terms at the places of a term.
func subs(sig []api.Symbol, t []int) [][]int {
	var l [][]int
	for at := range t {
		missing, end := 1, at
		for missing > 0 {
			missing--
			if t[end] >= 0 {
				missing += sig[t[end]].Arity
			}
			end++
		}
		l = append(l, t[at:end])
	}
	return l
}

// argsOf are the arguments of the symbol with which a term begins.
func argsOf(sig []api.Symbol, t []int) [][]int {
	parts := subs(sig, t)
	var l [][]int
	for at := 1; at < len(t); at += len(parts[at]) {
		l = append(l, parts[at])
	}
	return l
}

// reading reads the definition of P11.1 word by word. What it has read of two rows it keeps, as their texts.
type reading struct {
	sig  []api.Symbol
	p    *prec.Prec
	read map[string]int
}

func newReading(sig []api.Symbol, p *prec.Prec) reading { return reading{sig, p, map[string]int{}} }

// text is a row as runes, which no other row has; it is for few symbols and variables.
func text(t []int) string {
	var b strings.Builder
	for _, code := range t {
		b.WriteRune(rune(1000 + code))
	}
	return b.String()
}

func (r reading) greater(s, t []int) bool { return r.clause(s, t) > 0 }

// clause is the first of the definition's three that makes s greater than t; 0, if none does.
func (r reading) clause(s, t []int) int {
	if s[0] < 0 {
		return 0
	}
	key := text(s) + " " + text(t)
	if n, ok := r.read[key]; ok {
		return n
	}
	n := 0
	switch {
	case r.first(s, t):
		n = 1
	case r.second(s, t):
		n = 2
	case r.third(s, t):
		n = 3
	}
	r.read[key] = n
	return n
}

func (r reading) first(s, t []int) bool {
	return slices.ContainsFunc(argsOf(r.sig, s), func(si []int) bool { return slices.Equal(si, t) || r.greater(si, t) })
}

func (r reading) second(s, t []int) bool {
	return t[0] >= 0 && r.p.Above(s[0], t[0]) && r.thanAll(s, t)
}

func (r reading) third(s, t []int) bool {
	if t[0] != s[0] || !r.thanAll(s, t) {
		return false
	}
	a, b := argsOf(r.sig, s), argsOf(r.sig, t)
	return slices.ContainsFunc(upTo(len(a)), func(k int) bool {
		return slices.EqualFunc(a[:k], b[:k], slices.Equal[[]int]) && r.greater(a[k], b[k])
	})
}

func (r reading) thanAll(s, t []int) bool {
	return !slices.ContainsFunc(argsOf(r.sig, t), func(tj []int) bool { return !r.greater(s, tj) })
}

// wants holds what Greater answers over a signature.
func wants(t *testing.T, sig []api.Symbol, p *prec.Prec, s, u []int, want bool) {
	t.Helper()
	if Greater(sig, p, s, u) != want {
		t.Errorf("Greater(%v, %v): %v", s, u, !want)
	}
}

// oneWay holds that s is greater than u, that u is not greater than s, and how a rule of both is turned.
func oneWay(t *testing.T, sig []api.Symbol, p *prec.Prec, s, u []int) {
	t.Helper()
	wants(t, sig, p, s, u, true)
	wants(t, sig, p, u, s, false)
	turns(t, sig, p, rule(s, u), 1)
	turns(t, sig, p, rule(u, s), -1)
}

// neither holds that none of two terms is greater.
func neither(t *testing.T, sig []api.Symbol, p *prec.Prec, s, u []int) {
	t.Helper()
	wants(t, sig, p, s, u, false)
	wants(t, sig, p, u, s, false)
	turns(t, sig, p, rule(s, u), 0)
	turns(t, sig, p, rule(u, s), 0)
}

// turns holds what Orient answers.
func turns(t *testing.T, sig []api.Symbol, p *prec.Prec, r api.Rule, want int) {
	t.Helper()
	if n := Orient(sig, p, r); n != want {
		t.Errorf("Orient(%v): %d, want %d", r, n, want)
	}
}

// random draws the same numbers in each run.
type random uint64

func (r *random) below(n int) int {
	*r = *r*6364136223846793005 + 1442695040888963407
	return int(*r>>33) % n
}

// term draws a term over mixed, of at most about so many nodes, of that many variables.
func (r *random) term(nodes, vars int) []int {
	if nodes <= 1 {
		code := r.below(3 + vars)
		if code >= 3 {
			return row(2 - code)
		}
		return row(code)
	}
	code := 3 + r.below(5)
	t := row(code)
	arity := mixed()[code].Arity
	left := nodes - 1
	for i := range arity {
		size := left
		if i < arity-1 {
			size = 1 + r.below(left)
		}
		t = append(t, r.term(size, vars)...)
		left = max(1, left-size)
	}
	return t
}

// changed draws a term that is like another one, but at one place: another term stands there, or another symbol of the same arity.
func (r *random) changed(t *testing.T, u []int, vars int) []int {
	t.Helper()
	at := r.below(len(u))
	if like := likeSymbols(u[at]); len(like) > 0 && r.below(2) > 0 {
		v := slices.Clone(u)
		v[at] = like[r.below(len(like))]
		return v
	}
	return laid(t, mixed(), u, at, r.term(1+r.below(4), vars))
}

// likeSymbols are the other symbols of mixed that have a symbol's arity.
func likeSymbols(code int) []int {
	var l []int
	for other, s := range mixed() {
		if code >= 0 && other != code && s.Arity == mixed()[code].Arity {
			l = append(l, other)
		}
	}
	return l
}

// pool draws unlike terms over mixed that have much in common: each is drawn anew, or is one ahead of it with a change at one place, or at two.
func (r *random) pool(t *testing.T, n, vars int) [][]int {
	t.Helper()
	var l [][]int
	for len(l) < n {
		u := r.term(1+r.below(9), vars)
		if len(l) > 0 && r.below(8) > 0 {
			u = r.changed(t, l[r.below(len(l))], vars)
			if r.below(2) > 0 {
				u = r.changed(t, u, vars)
			}
		}
		if len(u) <= 25 && !slices.ContainsFunc(l, func(v []int) bool { return slices.Equal(u, v) }) {
			l = append(l, u)
		}
	}
	return l
}

func shuffled(r *random, l []int) []int {
	l = slices.Clone(l)
	for i := range l {
		j := r.below(i + 1)
		l[i], l[j] = l[j], l[i]
	}
	return l
}

// order draws pairs of n symbols that are no cycle: each goes down a drawn line of all of them.
func (r *random) order(n, most int) [][2]int {
	down := shuffled(r, upTo(n))
	var l [][2]int
	for range r.below(most + 1) {
		i := r.below(n - 1)
		l = append(l, pair(down[i], down[i+1+r.below(n-1-i)]))
	}
	return l
}

func (r *random) someOf(l [][2]int) [][2]int {
	var some [][2]int
	for _, p := range l {
		if r.below(3) > 0 {
			some = append(some, p)
		}
	}
	return some
}

// binds draws right binds over mixed of the variables 0 to 3.
func (r *random) binds() []api.Bind {
	var s []api.Bind
	for v := range 4 {
		if r.below(4) > 0 {
			s = append(s, api.Bind{Var: v, T: r.term(1+r.below(6), 4)})
		}
	}
	return s
}

// applied is subst.Apply, of what it must take.
func applied(t *testing.T, sig []api.Symbol, s []api.Bind, u []int) []int {
	t.Helper()
	v, e := subst.Apply(sig, s, u)
	if e != api.OK {
		t.Fatalf("Apply(%v; %v): %v", s, u, e)
	}
	return v
}

// laid is term.Replace, of what it must take.
func laid(t *testing.T, sig []api.Symbol, around []int, at int, u []int) []int {
	t.Helper()
	v, e := term.Replace(sig, around, at, u)
	if e != api.OK {
		t.Fatalf("Replace(%v, %d, %v): %v", around, at, u, e)
	}
	return v
}

// matrix is which of some terms Greater answers to be greater than which.
func matrix(sig []api.Symbol, p *prec.Prec, terms [][]int) [][]bool {
	m := make([][]bool, len(terms))
	for i, s := range terms {
		for _, u := range terms {
			m[i] = append(m[i], Greater(sig, p, s, u))
		}
	}
	return m
}
