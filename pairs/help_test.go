package pairs

import (
	"slices"
	"strconv"
	"testing"

	"lodestone/api"
)

func sym(name string, arity int) api.Symbol { return api.Symbol{Name: name, Arity: arity} }

func row(codes ...int) []int { return codes }

func rule(l, r []int) api.Rule { return api.Rule{L: l, R: r} }

func rules(l ...api.Rule) []api.Rule { return l }

func bind(v int, codes ...int) api.Bind { return api.Bind{Var: v, T: codes} }

// three is the document's signature: extended, zero# is 3, s# 4, plus# 5.
func three() []api.Symbol { return []api.Symbol{sym("zero", 0), sym("s", 1), sym("plus", 2)} }

// over is a system with the document's signature.
func over(rules ...api.Rule) api.System { return api.System{Sig: three(), Rules: rules} }

// sums is the document's system: it defines plus.
func sums() api.System {
	return over(rule(row(2, 0, -2), row(-2)), rule(row(2, 1, -1, -2), row(1, 2, -1, -2)))
}

// smallSystems are right systems over three, that define none, one, some or all of its symbols.
func smallSystems() []api.System {
	x, y, far := -1, -2, -api.MaxVar
	return []api.System{
		over(),
		sums(),
		over(rule(row(0), row(1, 0))),
		over(rule(row(1, x), row(0)), rule(row(1, 1, far), row(2, far, far))),
		over(rule(row(2, x, x), row(x)), rule(row(0), row(0))),
		over(rule(row(1, 0), row(0)), rule(row(2, x, y), row(2, y, x))),
		over(rule(row(0), row(2, 0, 0)), rule(row(1, x), row(2, 1, x, x)), rule(row(2, x, 1, x), row(1, x))),
	}
}

// all has a symbol of each arity: its code is its arity, marked it is greater by 9.
func all() []api.Symbol {
	var sig []api.Symbol
	for n := range api.MaxArity + 1 {
		sig = append(sig, sym("f"+strconv.Itoa(n), n))
	}
	return sig
}

// many has symbols without arguments, with one and with two, in turn.
func many(n int) []api.Symbol {
	var sig []api.Symbol
	for i := range n {
		sig = append(sig, sym("f"+strconv.Itoa(i), i%3))
	}
	return sig
}

// tower is s of s .. of end, with n nodes in all; s has the code 1.
func tower(n, end int) []int { return append(slices.Repeat([]int{1}, n-1), end) }

// rake is plus of its first part and plus of the next one and .., with zero behind the last.
func rake(parts ...[]int) []int {
	var t []int
	for _, p := range parts {
		t = append(append(t, 2), p...)
	}
	return append(t, 0)
}

// smallTerms are all terms over three with at most n nodes, of the variables from 0 on, as many as are asked for.
func smallTerms(n, vars int) [][]int {
	bySize := make([][][]int, n+1)
	bySize[1] = [][]int{{0}}
	for v := range vars {
		bySize[1] = append(bySize[1], row(-1-v))
	}
	for size := 2; size <= n; size++ {
		for _, a := range bySize[size-1] {
			bySize[size] = append(bySize[size], slices.Concat(row(1), a))
		}
		for left := 1; left <= size-2; left++ {
			for _, a := range bySize[left] {
				for _, b := range bySize[size-1-left] {
					bySize[size] = append(bySize[size], slices.Concat(row(2), a, b))
				}
			}
		}
	}
	return slices.Concat(bySize...)
}

// smallSides are terms over three whose roots are marked; below a few of these roots another marked symbol stands.
func smallSides() [][]int {
	args := append(smallTerms(3, 2), row(3), row(4, -1), row(5, 0, -2))
	sides := [][]int{{3}}
	for _, a := range args {
		sides = append(sides, slices.Concat(row(4), a))
		for _, b := range args {
			sides = append(sides, slices.Concat(row(5), a, b))
		}
	}
	return sides
}

// wrongSystem is a system that is not right, with what system.Check says of it.
type wrongSystem struct {
	s api.System
	e api.Errno
}

// wrongSystems have one fault each, and the document's rules ahead of it.
func wrongSystems() []wrongSystem {
	withSig := func(more ...api.Symbol) api.System {
		return api.System{Sig: append(three(), more...), Rules: sums().Rules}
	}
	behind := func(l, r []int) api.System { return over(append(sums().Rules, rule(l, r))...) }
	return []wrongSystem{
		{withSig(sym("1", 1)), api.ErrSigName},
		{withSig(sym("f#", 1)), api.ErrSigName},
		{withSig(sym("plus#", 2)), api.ErrSigName},
		{withSig(sym("f", 9)), api.ErrSigArity},
		{withSig(sym("f", -1)), api.ErrSigArity},
		{withSig(sym("s", 2)), api.ErrSigTwice},
		{withSig(many(api.MaxSymbols - 2)...), api.ErrSigMany},
		{withSig(many(2 * api.MaxSymbols)...), api.ErrSigMany},
		{over(slices.Repeat(sums().Rules, 33)...), api.ErrSystemMany},
		{behind(nil, row(0)), api.ErrTermShort},
		{behind(row(2, 0), row(0)), api.ErrTermShort},
		{behind(row(0), row(3)), api.ErrTermCode},
		{behind(row(5, 0, 0), row(0)), api.ErrTermCode},
		{behind(row(0), row(0, 0)), api.ErrTermMore},
		{behind(tower(api.MaxNodes+1, 0), row(0)), api.ErrTooBig},
		{behind(row(0), tower(api.MaxNodes+1, 0)), api.ErrTooBig},
		{behind(row(-1), row(0)), api.ErrSystemVar},
		{behind(row(1, -1), row(-2)), api.ErrSystemFree},
	}
}

// wrongSides may not stand in an edge of a system over three, whatever stands on the other side.
func wrongSides() [][]int {
	return [][]int{
		nil, {}, {5}, {5, 0}, {5, 0, 5, 0}, {4}, tower(600, 1), slices.Concat(row(4), tower(600, 1)),
		{6}, {5, 0, 6}, {4, 6}, {4, -api.MaxVar - 1}, {5, -1, -1 << 63}, {4, 1<<63 - 1}, {-1 << 63}, {1<<63 - 1},
		{3, 3}, {5, 0, 0, 0}, {4, 0, 99}, {3, -1},
		slices.Concat(row(4), tower(api.MaxNodes, 0)), slices.Concat(row(4), tower(api.MaxNodes, -1)), slices.Concat(row(5), tower(256, -1), tower(256, -2)),
		{0}, {1, 0}, {2, 0, 0}, {2, -1, -2}, {1, 4, 0}, {2, 5, 0, 0, 0}, {1, 5, -1, -2}, {-1}, {-2}, {-api.MaxVar},
	}
}

// arityOf is how many arguments a code has over the extended signature.
func arityOf(sig []api.Symbol, code int) int {
	if code < 0 {
		return 0
	}
	return sig[code%len(sig)].Arity
}

// partAt is the term at a place, over the extended signature.
func partAt(sig []api.Symbol, t []int, at int) []int {
	missing, end := 1, at
	for missing > 0 {
		missing += arityOf(sig, t[end]) - 1
		end++
	}
	return t[at:end]
}

// made is what binds make of a term, of any size.
func made(s []api.Bind, t []int) []int {
	var l []int
	for _, code := range t {
		i := slices.IndexFunc(s, func(b api.Bind) bool { return b.Var == -1-code })
		if code < 0 && i >= 0 {
			l = append(l, s[i].T...)
		} else {
			l = append(l, code)
		}
	}
	return l
}

func sameRules(a, b []api.Rule) bool {
	return slices.EqualFunc(a, b, func(p, q api.Rule) bool { return slices.Equal(p.L, q.L) && slices.Equal(p.R, q.R) })
}

func sameRows(a, b [][]int) bool { return slices.EqualFunc(a, b, slices.Equal[[]int]) }

// extends holds what Extend answers, where it may be; extendsNot where it may not.
func extends(t *testing.T, sig []api.Symbol, want ...api.Symbol) {
	t.Helper()
	if got, e := Extend(sig); e != api.OK || !slices.Equal(got, want) {
		t.Errorf("Extend(%v): %v, %v, want %v", sig, got, e, want)
	}
}

func extendsNot(t *testing.T, sig []api.Symbol, want api.Errno) {
	t.Helper()
	if got, e := Extend(sig); e != want || len(got) > 0 {
		t.Errorf("Extend(%v): %v, %v, want %v", sig, got, e, want)
	}
}

// has holds which pairs Of answers; hasNone which error.
func has(t *testing.T, s api.System, want ...api.Rule) {
	t.Helper()
	if got, e := Of(s); e != api.OK || !sameRules(got, want) {
		t.Errorf("Of(%v): %v, %v, want %v", s, got, e, want)
	}
}

func hasNone(t *testing.T, s api.System, want api.Errno) {
	t.Helper()
	if got, e := Of(s); e != want || len(got) > 0 {
		t.Errorf("Of(%v): %v, %v, want %v", s, got, e, want)
	}
}

// edge holds what Edge answers for a pair with that right side, and one with that left side; whatever their other sides are.
func edge(t *testing.T, s api.System, r, l []int, want bool) {
	t.Helper()
	for _, other := range [][]int{nil, {5, 0, 0}, {99}} {
		if Edge(s, rule(other, r), rule(l, other)) != want {
			t.Errorf("Edge(%v, %v, %v), the other sides being %v: not %v", s, r, l, other, want)
		}
	}
}

// follows holds what Graph answers.
func follows(t *testing.T, s api.System, l []api.Rule, want ...[]int) {
	t.Helper()
	if got := Graph(s, l); !sameRows(got, want) {
		t.Errorf("Graph(%v, %v): %v, want %v", s, l, got, want)
	}
}
