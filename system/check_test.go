package system

import (
	"slices"
	"strconv"
	"strings"
	"testing"

	"lodestone/api"
)

func TestCheckExamples(t *testing.T) { // P7.1
	checks(t, sums(), api.OK, 0)
	checks(t, over(rule(row(-1), row(0))), api.ErrSystemVar, 0)
	checks(t, over(rule(row(0), row(-1))), api.ErrSystemFree, 0)
	checks(t, over(rule(row(2, 0), row(0))), api.ErrTermShort, 0)
	checks(t, over(rule(row(0), row(3))), api.ErrTermCode, 0)
	checks(t, api.System{Sig: []api.Symbol{sym("f#", 1)}}, api.ErrSigName, -1)
	checks(t, over(), api.OK, 0)
}

func TestWrongSystems(t *testing.T) { // P7.1, R3
	for _, w := range wrongSystems() {
		checks(t, w.s, w.e, w.at)
	}
}

func TestManySymbols(t *testing.T) { // P7.1
	for n := range 2*api.MaxSymbols + 10 {
		if n <= api.MaxSymbols {
			checks(t, api.System{Sig: many(n)}, api.OK, 0)
		} else {
			checks(t, api.System{Sig: many(n)}, api.ErrSigMany, -1)
		}
	}
	// the last code of the greatest signature, and the one behind it
	checks(t, api.System{Sig: many(api.MaxSymbols), Rules: []api.Rule{rule(row(63), row(63))}}, api.OK, 0)
	checks(t, api.System{Sig: many(api.MaxSymbols), Rules: []api.Rule{rule(row(64), row(63))}}, api.ErrTermCode, 0)
}

func TestMarkedNames(t *testing.T) { // P7.1
	for at := range 3 {
		s := sums()
		s.Sig[at].Name += "#"
		checks(t, s, api.ErrSigName, -1)
	}
	long := strings.Repeat("é", api.MaxName/2)
	checks(t, api.System{Sig: []api.Symbol{sym(long, 1)}}, api.OK, 0)
	checks(t, api.System{Sig: []api.Symbol{sym(long+"#", 1)}}, api.ErrSigName, -1)
	checks(t, api.System{Sig: []api.Symbol{sym("f", 1), sym("f#", 1)}}, api.ErrSigName, -1)
	checks(t, api.System{Sig: []api.Symbol{sym("f'", 1), sym("f_1", 1)}}, api.OK, 0)
}

func TestManyRules(t *testing.T) { // P7.1
	good := sums().Rules[1]
	for n := range api.MaxRules + 10 {
		if n <= api.MaxRules {
			checks(t, over(slices.Repeat([]api.Rule{good}, n)...), api.OK, 0)
		} else {
			checks(t, over(slices.Repeat([]api.Rule{good}, n)...), api.ErrSystemMany, -1)
		}
	}
	checks(t, over(make([]api.Rule, api.MaxRules)...), api.ErrTermShort, 0)
	checks(t, over(make([]api.Rule, api.MaxRules+1)...), api.ErrSystemMany, -1)
	last := over(slices.Repeat([]api.Rule{good}, api.MaxRules)...)
	last.Rules[api.MaxRules-1] = rule(row(-1), row(-1))
	checks(t, last, api.ErrSystemVar, api.MaxRules-1)
}

func TestNoRules(t *testing.T) { // P7.1, P7.2, P7.3, R4
	for _, s := range []api.System{{}, {Sig: []api.Symbol{}}, {Rules: []api.Rule{}}, over(), {Sig: three(), Rules: []api.Rule{}}} {
		checks(t, s, api.OK, 0)
		defines(t, s)
		same(t, s, s, true)
	}
	same(t, over(), api.System{Sig: three(), Rules: []api.Rule{}}, true)
	same(t, api.System{}, api.System{Sig: []api.Symbol{}}, true)
	same(t, over(), api.System{}, false)
}

func TestSizes(t *testing.T) { // P7.1
	for _, end := range []int{0, -1} {
		just, more := tower(api.MaxNodes, end), tower(api.MaxNodes+1, end)
		checks(t, over(rule(just, just)), api.OK, 0)
		checks(t, over(rule(more, row(0))), api.ErrTooBig, 0)
		checks(t, over(rule(row(1, end), more)), api.ErrTooBig, 0)
		checks(t, over(rule(more, more)), api.ErrTooBig, 0)
		checks(t, over(rule(just, row(0)), rule(row(0), row(0)), rule(just, more)), api.ErrTooBig, 2)
		checks(t, over(rule(just, row(0)), rule(more, just), rule(just, more)), api.ErrTooBig, 1)
	}
	// 256 variables of the greatest numbers, 511 nodes
	var wide []int
	for v := range 255 {
		wide = append(wide, 2, -api.MaxVar+v)
	}
	wide = append(wide, -1)
	checks(t, over(rule(wide, wide)), api.OK, 0)
	checks(t, over(rule(slices.Concat(row(1), wide), wide)), api.OK, 0)
	checks(t, over(rule(slices.Concat(row(1, 1), wide), wide)), api.ErrTooBig, 0)
	checks(t, over(rule(wide, tower(2, -api.MaxVar+254))), api.OK, 0)
	checks(t, over(rule(wide, tower(2, -api.MaxVar+255))), api.ErrSystemFree, 0)
}

func TestLeftSideIsAVariable(t *testing.T) { // P7.1
	for _, v := range variables() {
		for _, r := range [][]int{{0}, {1, 0}, {-1}, {-1 - v}, {2, -1 - v, -2}} {
			checks(t, over(rule(row(-1-v), r)), api.ErrSystemVar, 0)
		}
	}
	checks(t, api.System{Rules: []api.Rule{rule(row(-1), row(-1))}}, api.ErrSystemVar, 0)
}

func TestFreeVariables(t *testing.T) { // P7.1
	for _, v := range variables() {
		for _, w := range variables() {
			x, y := -1-v, -1-w
			want := api.ErrSystemFree
			if v == w {
				want = api.OK
			}
			checks(t, over(rule(row(1, x), row(y))), want, 0)
			checks(t, over(rule(row(2, x, x), row(2, x, 1, y))), want, 0)
			checks(t, over(rule(row(2, x, 1, 0), row(2, y, x))), want, 0)
			checks(t, over(rule(row(2, x, y), row(2, y, x))), api.OK, 0)
			checks(t, over(rule(row(2, x, y), row(x))), api.OK, 0)
			checks(t, over(rule(row(2, x, y), row(0))), api.OK, 0)
			checks(t, over(rule(row(0), row(2, x, y))), api.ErrSystemFree, 0)
		}
	}
	// another rule's variables do not count
	checks(t, over(rule(row(1, -1), row(-1)), rule(row(1, -2), row(-1))), api.ErrSystemFree, 1)
	checks(t, over(rule(row(1, -2), row(-1)), rule(row(1, -1), row(-1))), api.ErrSystemFree, 0)
}

// TestFirstFaultAhead lays each choice of faults into one system: the one that the promise names first is told.
func TestFirstFaultAhead(t *testing.T) { // P7.1, R2
	type fault struct {
		e  api.Errno
		at int
		in func(s *api.System)
	}
	for _, first := range []fault{
		{api.ErrSigArity, -1, func(s *api.System) { s.Sig = append(s.Sig, sym("wide", 9)) }},
		{api.ErrSigTwice, -1, func(s *api.System) { s.Sig = append(s.Sig, sym("zero", 0)) }},
		{api.ErrSigName, -1, func(s *api.System) { s.Sig = append(s.Sig, sym("1", 0)) }},
	} {
		faults := []fault{
			first,
			{api.ErrSigMany, -1, func(s *api.System) { s.Sig = append(s.Sig, many(api.MaxSymbols)...) }},
			{api.ErrSigName, -1, func(s *api.System) { s.Sig = append(s.Sig, sym("marked#", 0)) }},
			{api.ErrSystemMany, -1, func(s *api.System) { s.Rules = append(s.Rules, slices.Repeat(sums().Rules, 32)...) }},
			{api.ErrTermShort, 1, func(s *api.System) { s.Rules[1].L = nil }},
		}
		for choice := range 1 << len(faults) {
			s, e, at := sums(), api.OK, 0
			for i, f := range slices.Backward(faults) {
				if choice>>i&1 == 1 {
					f.in(&s)
					e, at = f.e, f.at
				}
			}
			checks(t, s, e, at)
		}
	}
}

// TestManySymbolsAndAFault: beyond the signature's own limit nothing else of it is told; up to that the fault is.
func TestManySymbolsAndAFault(t *testing.T) { // P7.1, R2
	for n, want := range map[int]api.Errno{
		api.MaxSymbols: api.ErrSigArity, api.MaxSymbols + 1: api.ErrSigArity,
		2 * api.MaxSymbols: api.ErrSigArity, 2*api.MaxSymbols + 1: api.ErrSigMany,
	} {
		sig := many(n)
		sig[n-1].Arity = 9
		checks(t, api.System{Sig: sig}, want, -1)
	}
	sig := many(api.MaxSymbols + 1)
	sig[0].Name = "f#"
	checks(t, api.System{Sig: sig}, api.ErrSigMany, -1)
	checks(t, api.System{Sig: sig[:api.MaxSymbols]}, api.ErrSigName, -1)
}

// side is a side of a rule, and what is wrong with it.
type side struct {
	t   []int
	e   api.Errno
	big bool
}

func sides() []side {
	l := []side{
		{nil, api.ErrTermShort, false}, {row(2, 0), api.ErrTermShort, false}, {tower(600, 1), api.ErrTermShort, true},
		{row(3), api.ErrTermCode, false}, {row(1, -api.MaxVar-1), api.ErrTermCode, false}, {tower(600, 3), api.ErrTermCode, true},
		{row(0, 0), api.ErrTermMore, false}, {row(-1, -1), api.ErrTermMore, false}, {append(tower(600, -1), 0), api.ErrTermMore, true},
	}
	for _, end := range []int{0, -1, -2, -api.MaxVar} {
		l = append(l, side{row(end), api.OK, false}, side{tower(2, end), api.OK, false}, side{tower(512, end), api.OK, false})
		l = append(l, side{tower(513, end), api.OK, true}, side{tower(1024, end), api.OK, true})
	}
	return l
}

// ruleFault is the first fault of a rule whose sides end in their only variable, or in none.
func ruleFault(l, r side) api.Errno {
	switch {
	case l.e != api.OK:
		return l.e
	case r.e != api.OK:
		return r.e
	case l.big || r.big:
		return api.ErrTooBig
	case l.t[0] < 0:
		return api.ErrSystemVar
	case r.t[len(r.t)-1] < 0 && r.t[len(r.t)-1] != l.t[len(l.t)-1]:
		return api.ErrSystemFree
	}
	return api.OK
}

// TestFirstFaultOfARule has each fault on the left together with each on the right.
func TestFirstFaultOfARule(t *testing.T) { // P7.1, R2
	for _, l := range sides() {
		for _, r := range sides() {
			e, at := ruleFault(l, r), 0
			checks(t, over(rule(l.t, r.t)), e, at)
			if e != api.OK {
				at = 2
			}
			checks(t, over(append(sums().Rules, rule(l.t, r.t))...), e, at)
		}
	}
}

// TestFirstWrongRule: a rule's fault is told ahead of any fault of a rule behind it.
func TestFirstWrongRule(t *testing.T) { // P7.1, R2
	var wrong []api.Rule
	var faults []api.Errno
	for _, w := range wrongSystems() {
		if w.at == 2 {
			wrong, faults = append(wrong, w.s.Rules[2]), append(faults, w.e)
		}
	}
	for i, a := range wrong {
		for _, b := range wrong {
			good := sums().Rules
			checks(t, over(a, b), faults[i], 0)
			checks(t, over(good[0], a, b), faults[i], 1)
			checks(t, over(good[0], a, good[1], b, good[1]), faults[i], 1)
		}
	}
	if len(wrong) < 10 {
		t.Errorf("only %d wrong rules", len(wrong))
	}
}

// TestCheckOfSmallRules holds all small rules against the words of the promise.
func TestCheckOfSmallRules(t *testing.T) { // P7.1
	right := 0
	for _, l := range smallTerms(4, 2) {
		for _, r := range smallTerms(4, 3) {
			want := api.OK
			for _, code := range r {
				if code < 0 && !slices.Contains(l, code) {
					want = api.ErrSystemFree
				}
			}
			if l[0] < 0 {
				want = api.ErrSystemVar
			}
			checks(t, over(rule(l, r)), want, 0)
			if want == api.OK {
				right++
			}
		}
	}
	if right < 100 {
		t.Errorf("only %d rules are right", right)
	}
}

func TestCheckOfDrawnSystems(t *testing.T) { // P7.1
	r := random(1)
	for range 300 {
		s := r.system(r.below(api.MaxRules + 1))
		checks(t, s, api.OK, 0)
		if len(s.Rules) == 0 {
			continue
		}
		at := r.below(len(s.Rules))
		s.Rules[at].R = append(row(2, -1-500), s.Rules[at].R...) // no drawn rule has that variable
		checks(t, s, api.ErrSystemFree, at)
	}
}

// defines holds what Defined answers.
func defines(t *testing.T, s api.System, want ...int) {
	t.Helper()
	if got := Defined(s); !slices.Equal(got, want) {
		t.Errorf("Defined(%v): %v, want %v", s, got, want)
	}
}

func TestDefined(t *testing.T) { // P7.2
	defines(t, sums(), 2)
	defines(t, over(rule(row(0), row(0))), 0)
	defines(t, over(rule(row(2, 1, 0, 0), row(1, 0)), rule(row(0), row(0))), 0, 2)
	defines(t, over(rule(row(2, -1, -1), row(-1)), rule(row(0), row(2, 0, 0)), rule(row(2, 0, 0), row(0)), rule(row(1, 1, 0), row(0)), rule(row(0), row(0))), 0, 1, 2)
	// what stands below a root, or on the right alone, is not defined
	defines(t, over(rule(row(1, 2, 0, 0), row(2, 0, 0))), 1)
}

func TestDefinedOfAllSymbols(t *testing.T) { // P7.2
	var s api.System
	var want []int
	for code := range api.MaxSymbols {
		s.Sig = append(s.Sig, sym("f"+strconv.Itoa(code), code%2))
		l := row(code)
		if code%2 == 1 {
			l = row(code, 0)
		}
		s.Rules = append(s.Rules, rule(l, row(0)))
		want = append(want, code)
	}
	defines(t, s, want...)
	slices.Reverse(s.Rules)
	defines(t, s, want...)
}

func TestDefinedOfWrongSystems(t *testing.T) { // P7.2, R3
	for _, w := range wrongSystems() {
		defines(t, w.s)
	}
}

func TestDefinedOfDrawnSystems(t *testing.T) { // P7.2
	r := random(2)
	for range 300 {
		s := r.system(r.below(12))
		var want []int
		for code := range s.Sig {
			if slices.ContainsFunc(s.Rules, func(a api.Rule) bool { return a.L[0] == code }) {
				want = append(want, code)
			}
		}
		defines(t, s, want...)
		defines(t, r.disguised(s), want...)
	}
}
