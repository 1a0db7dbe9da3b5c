package overlap

import (
	"slices"
	"strconv"
	"testing"

	"lodestone/api"
)

func sym(name string, arity int) api.Symbol { return api.Symbol{Name: name, Arity: arity} }

func row(codes ...int) []int { return codes }

func rule(l, r []int) api.Rule { return api.Rule{L: l, R: r} }

func rules(l ...api.Rule) []api.Rule { return l }

func pairs(l ...api.Critical) []api.Critical { return l }

// tooBig is a critical pair whose terms are not told.
func tooBig(outer, inner, at int) api.Critical {
	return api.Critical{Outer: outer, Inner: inner, At: at, Code: api.ErrTooBig}
}

// three is the document's signature.
func three() []api.Symbol { return []api.Symbol{sym("zero", 0), sym("s", 1), sym("plus", 2)} }

// over is a system with the document's signature.
func over(rules ...api.Rule) api.System { return api.System{Sig: three(), Rules: rules} }

// sums is the document's system.
func sums() api.System {
	return over(rule(row(2, 0, -2), row(-2)), rule(row(2, 1, -1, -2), row(1, 2, -1, -2)))
}

// all has a symbol of each arity: its code is its arity.
func all() []api.Symbol {
	var sig []api.Symbol
	for n := range api.MaxArity + 1 {
		sig = append(sig, sym("f"+strconv.Itoa(n), n))
	}
	return sig
}

// many has symbols without arguments, with one and with two, in turn.
func many(n int) []api.Symbol {
	var sig []api.Symbol
	for i := range n {
		sig = append(sig, sym("f"+strconv.Itoa(i), i%3))
	}
	return sig
}

// tower is s of s .. of end, with n nodes in all; s has the code 1.
func tower(n, end int) []int { return append(slices.Repeat([]int{1}, n-1), end) }

// smallTerms are all terms over three with at most n nodes, of the variables from 0 on, as many as are asked for.
func smallTerms(n, vars int) [][]int {
	bySize := make([][][]int, n+1)
	bySize[1] = [][]int{{0}}
	for v := range vars {
		bySize[1] = append(bySize[1], row(-1-v))
	}
	for size := 2; size <= n; size++ {
		for _, a := range bySize[size-1] {
			bySize[size] = append(bySize[size], slices.Concat(row(1), a))
		}
		for left := 1; left <= size-2; left++ {
			for _, a := range bySize[left] {
				for _, b := range bySize[size-1-left] {
					bySize[size] = append(bySize[size], slices.Concat(row(2), a, b))
				}
			}
		}
	}
	return slices.Concat(bySize...)
}

// wrongSystem is a system that is not right, with what system.Check says of it.
type wrongSystem struct {
	s api.System
	e api.Errno
}

// wrongSystems have one fault each, and a rule that overlaps with itself ahead of it.
func wrongSystems() []wrongSystem {
	right := rules(rule(row(1, 1, -1), row(2, -1, -1)))
	withSig := func(more ...api.Symbol) api.System {
		return api.System{Sig: append(three(), more...), Rules: right}
	}
	behind := func(l, r []int) api.System { return over(right[0], rule(l, r)) }
	return []wrongSystem{
		{withSig(sym("1", 1)), api.ErrSigName},
		{withSig(sym("f#", 1)), api.ErrSigName},
		{withSig(sym("f", 9)), api.ErrSigArity},
		{withSig(sym("f", -1)), api.ErrSigArity},
		{withSig(sym("s", 2)), api.ErrSigTwice},
		{withSig(many(api.MaxSymbols - 2)...), api.ErrSigMany},
		{withSig(many(2 * api.MaxSymbols)...), api.ErrSigMany},
		{over(slices.Repeat(right, api.MaxRules+1)...), api.ErrSystemMany},
		{behind(nil, row(0)), api.ErrTermShort},
		{behind(row(2, 0), row(0)), api.ErrTermShort},
		{behind(row(0), row(3)), api.ErrTermCode},
		{behind(row(5, 0, 0), row(0)), api.ErrTermCode},
		{behind(row(0), row(0, 0)), api.ErrTermMore},
		{behind(tower(api.MaxNodes+1, 0), row(0)), api.ErrTooBig},
		{behind(row(0), tower(api.MaxNodes+1, 0)), api.ErrTooBig},
		{behind(row(-1), row(0)), api.ErrSystemVar},
		{behind(row(1, -1), row(-2)), api.ErrSystemFree},
	}
}

// partAt is the term at a place.
func partAt(sig []api.Symbol, t []int, at int) []int {
	missing, end := 1, at
	for missing > 0 {
		missing--
		if t[end] >= 0 {
			missing += sig[t[end]].Arity
		}
		end++
	}
	return t[at:end]
}

func sameCritical(a, b api.Critical) bool {
	return a.Outer == b.Outer && a.Inner == b.Inner && a.At == b.At && a.Spot == b.Spot && a.Code == b.Code &&
		slices.Equal(a.Peak, b.Peak) && slices.Equal(a.L, b.L) && slices.Equal(a.R, b.R)
}

func sameCriticals(a, b []api.Critical) bool { return slices.EqualFunc(a, b, sameCritical) }

// has holds which critical pairs All answers; hasNot which error.
func has(t *testing.T, s api.System, want ...api.Critical) {
	t.Helper()
	if got, e := All(s); e != api.OK || !sameCriticals(got, want) {
		t.Errorf("All(%v):\n%v, %v, want\n%v", s, got, e, want)
	}
}

func hasNot(t *testing.T, s api.System, want api.Errno) {
	t.Helper()
	if got, e := All(s); e != want || len(got) > 0 {
		t.Errorf("All(%v): %d pairs, %v, want %v", s, len(got), e, want)
	}
}

// meet holds which critical pairs two rules have; meetNot which error.
func meet(t *testing.T, s api.System, outer, inner int, want ...api.Critical) {
	t.Helper()
	if got, e := Of(s, outer, inner); e != api.OK || !sameCriticals(got, want) {
		t.Errorf("Of(%v, %d, %d):\n%v, %v, want\n%v", s, outer, inner, got, e, want)
	}
}

func meetNot(t *testing.T, s api.System, outer, inner int, want api.Errno) {
	t.Helper()
	if got, e := Of(s, outer, inner); e != want || len(got) > 0 {
		t.Errorf("Of(%v, %d, %d): %d pairs, %v, want %v", s, outer, inner, len(got), e, want)
	}
}
