package system

import (
	"fmt"
	"slices"
	"strconv"
	"testing"

	"lodestone/api"
)

func sym(name string, arity int) api.Symbol { return api.Symbol{Name: name, Arity: arity} }

func row(codes ...int) []int { return codes }

func rule(l, r []int) api.Rule { return api.Rule{L: l, R: r} }

// three is the document's signature.
func three() []api.Symbol { return []api.Symbol{sym("zero", 0), sym("s", 1), sym("plus", 2)} }

// over is a system with the document's signature.
func over(rules ...api.Rule) api.System { return api.System{Sig: three(), Rules: rules} }

// sums is the document's system.
func sums() api.System {
	return over(rule(row(2, 0, -1), row(-1)), rule(row(2, 1, -1, -2), row(1, 2, -1, -2)))
}

// all has a symbol of each arity: its code is its arity.
func all() []api.Symbol {
	var sig []api.Symbol
	for n := range api.MaxArity + 1 {
		sig = append(sig, sym("f"+strconv.Itoa(n), n))
	}
	return sig
}

// many has symbols without arguments, with one and with two, in turn.
func many(n int) []api.Symbol {
	var sig []api.Symbol
	for i := range n {
		sig = append(sig, sym("f"+strconv.Itoa(i), i%3))
	}
	return sig
}

// tower is s of s .. of end, with n nodes in all; s has the code 1.
func tower(n, end int) []int { return append(slices.Repeat([]int{1}, n-1), end) }

// smallTerms are all terms over three with at most n nodes, of the variables from 0 on, as many as are asked for.
func smallTerms(n, vars int) [][]int {
	bySize := make([][][]int, n+1)
	bySize[1] = [][]int{{0}}
	for v := range vars {
		bySize[1] = append(bySize[1], row(-1-v))
	}
	for size := 2; size <= n; size++ {
		for _, a := range bySize[size-1] {
			bySize[size] = append(bySize[size], slices.Concat(row(1), a))
		}
		for left := 1; left <= size-2; left++ {
			for _, a := range bySize[left] {
				for _, b := range bySize[size-1-left] {
					bySize[size] = append(bySize[size], slices.Concat(row(2), a, b))
				}
			}
		}
	}
	return slices.Concat(bySize...)
}

// wrongSystem is a system that is not right, with what Check answers.
type wrongSystem struct {
	s  api.System
	e  api.Errno
	at int
}

// wrongSystems have one fault each.
func wrongSystems() []wrongSystem {
	withSig := func(sig []api.Symbol) api.System { return api.System{Sig: sig, Rules: sums().Rules} }
	behind := func(r api.Rule) api.System { return over(append(sums().Rules, r)...) }
	return []wrongSystem{
		{withSig(append(three(), sym("1", 1))), api.ErrSigName, -1},
		{withSig(append(three(), sym("", 1))), api.ErrSigName, -1},
		{withSig(append(three(), sym("f##", 1))), api.ErrSigName, -1},
		{withSig(append(three(), sym("f", 9))), api.ErrSigArity, -1},
		{withSig(append(three(), sym("f", -1))), api.ErrSigArity, -1},
		{withSig(append(three(), sym("s", 2))), api.ErrSigTwice, -1},
		{withSig(append(three(), many(api.MaxSymbols-2)...)), api.ErrSigMany, -1},
		{withSig(append(three(), many(2*api.MaxSymbols)...)), api.ErrSigMany, -1},
		{withSig(append(three(), sym("f#", 1))), api.ErrSigName, -1},
		{over(slices.Repeat(sums().Rules, 33)...), api.ErrSystemMany, -1},
		{behind(rule(nil, row(0))), api.ErrTermShort, 2},
		{behind(rule(row(1), row(0))), api.ErrTermShort, 2},
		{behind(rule(row(3), row(0))), api.ErrTermCode, 2},
		{behind(rule(row(1, -api.MaxVar-1), row(0))), api.ErrTermCode, 2},
		{behind(rule(row(0, 0), row(0))), api.ErrTermMore, 2},
		{behind(rule(row(0), nil)), api.ErrTermShort, 2},
		{behind(rule(row(0), row(2, 0))), api.ErrTermShort, 2},
		{behind(rule(row(0), row(1, 3))), api.ErrTermCode, 2},
		{behind(rule(row(0), row(-api.MaxVar-1))), api.ErrTermCode, 2},
		{behind(rule(row(0), row(1, 0, -1))), api.ErrTermMore, 2},
		{behind(rule(tower(api.MaxNodes+1, 0), row(0))), api.ErrTooBig, 2},
		{behind(rule(row(0), tower(api.MaxNodes+1, 0))), api.ErrTooBig, 2},
		{behind(rule(row(-1), row(0))), api.ErrSystemVar, 2},
		{behind(rule(row(-1), row(-1))), api.ErrSystemVar, 2},
		{behind(rule(row(0), row(-1))), api.ErrSystemFree, 2},
		{behind(rule(row(1, -1), row(2, -1, -2))), api.ErrSystemFree, 2},
	}
}

// checks holds what Check answers.
func checks(t *testing.T, s api.System, want api.Errno, at int) {
	t.Helper()
	if e, n := Check(s); e != want || n != at {
		t.Errorf("Check(%v): %v, %d, want %v, %d", s, e, n, want, at)
	}
}

// same holds what Same answers, either way round.
func same(t *testing.T, a, b api.System, want bool) {
	t.Helper()
	if Same(a, b) != want || Same(b, a) != want {
		t.Errorf("Same(%v, %v): not %v", a, b, want)
	}
}

// random draws the same numbers in each run.
type random uint64

func (r *random) below(n int) int {
	*r = *r*6364136223846793005 + 1442695040888963407
	return int(*r>>33) % n
}

// variables are those of drawn rules, the greatest among them.
func variables() []int { return []int{0, 1, 2, 3, 4, 77, api.MaxVar - 2, api.MaxVar - 1} }

// term draws a term over all, of at most about so many nodes, of variables of a list.
func (r *random) term(nodes int, vars []int) []int {
	if nodes <= 1 {
		if r.below(4) == 0 || len(vars) == 0 {
			return row(0)
		}
		return row(-1 - vars[r.below(len(vars))])
	}
	arity := r.below(api.MaxArity + 1)
	t := row(arity)
	for range arity {
		t = append(t, r.term(nodes/arity-r.below(2), vars)...)
	}
	return t
}

// rule draws a right rule over all.
func (r *random) rule() api.Rule {
	l := r.term(2+r.below(20), variables())
	var vars []int
	for _, code := range l {
		if code < 0 {
			vars = append(vars, -1-code)
		}
	}
	return rule(l, r.term(1+r.below(20), vars))
}

// system draws a right system over all.
func (r *random) system(rules int) api.System {
	s := api.System{Sig: all()}
	for range rules {
		s.Rules = append(s.Rules, r.rule())
	}
	return s
}

// renamed gives the variables of a drawn rule each another one's name.
func (r *random) renamed(a api.Rule) api.Rule {
	turn := r.below(8)
	other := func(t []int) []int {
		u := slices.Clone(t)
		for i, code := range u {
			if code < 0 {
				u[i] = -1 - variables()[(slices.Index(variables(), -1-code)+turn)%8]
			}
		}
		return u
	}
	return rule(other(a.L), other(a.R))
}

// disguised has the rules of a drawn system in another order, and with other variables.
func (r *random) disguised(s api.System) api.System {
	var rules []api.Rule
	for _, a := range s.Rules {
		rules = slices.Insert(rules, r.below(len(rules)+1), r.renamed(a))
	}
	return api.System{Sig: slices.Clone(s.Sig), Rules: rules}
}

// spelt is a text that is the same for variants, and for no other rules.
func spelt(a api.Rule) string {
	var met []int
	text := ""
	for _, code := range slices.Concat(a.L, row(1<<40), a.R) {
		if code >= 0 {
			text += fmt.Sprint(" ", code)
			continue
		}
		if !slices.Contains(met, code) {
			met = append(met, code)
		}
		text += fmt.Sprint(" x", slices.Index(met, code))
	}
	return text
}

// sameRules holds the rules of two systems against each other, as sorted texts.
func sameRules(a, b api.System) bool {
	texts := func(s api.System) []string {
		var l []string
		for _, r := range s.Rules {
			l = append(l, spelt(r))
		}
		slices.Sort(l)
		return l
	}
	return slices.Equal(texts(a), texts(b))
}
