package pairs

import (
	"slices"
	"testing"

	"lodestone/api"
	"lodestone/system"
	"lodestone/term"
)

func TestOfExamples(t *testing.T) { // P13.2
	has(t, sums(), rule(row(5, 1, -1, -2), row(5, -1, -2)))
	has(t, over())
	has(t, api.System{})
	// d(s(x)) -> p(d(x), d(x)): the same pair twice
	d := api.System{Sig: []api.Symbol{sym("s", 1), sym("d", 1), sym("p", 2)}, Rules: rules(rule(row(1, 0, -1), row(2, 1, -1, 1, -1)))}
	has(t, d, rule(row(4, 0, -1), row(4, -1)), rule(row(4, 0, -1), row(4, -1)))
}

func TestNoDefinedSymbol(t *testing.T) { // P13.2
	x, y := -1, -2
	has(t, over(rule(row(2, x, y), row(x))))
	has(t, over(rule(row(2, x, y), row(0))))
	has(t, over(rule(row(2, x, y), row(1, 1, y))))
	has(t, over(rule(row(1, x), row(2, 0, 2, x, x)), rule(row(1, 1, x), row(0))))
}

// TestSeveralOfOne: at the root, and inside of one another, place by place.
func TestSeveralOfOne(t *testing.T) { // P13.2
	x, y := -1, -2
	l := row(5, x, y)
	has(t, over(rule(row(2, x, y), row(2, 2, x, y, 1, 2, 1, 2, y, 0, x))),
		rule(l, row(5, 2, x, y, 1, 2, 1, 2, y, 0, x)),
		rule(l, row(5, x, y)),
		rule(l, row(5, 1, 2, y, 0, x)),
		rule(l, row(5, y, 0)))
	has(t, over(rule(row(0), row(2, 0, 1, 0))), rule(row(3), row(3)), rule(row(3), row(3)))
	has(t, over(rule(row(0), row(0))), rule(row(3), row(3)))
	has(t, over(rule(row(1, 1, x), row(1, 1, 1, x))),
		rule(row(4, 1, x), row(4, 1, 1, x)), rule(row(4, 1, x), row(4, 1, x)), rule(row(4, 1, x), row(4, x)))
}

// TestRuleByRule: a symbol may be defined by a rule that comes later, and of a left side the root alone counts.
func TestRuleByRule(t *testing.T) { // P13.2
	x, y, far := -1, -2, -api.MaxVar
	has(t, over(rule(row(1, 2, x, y), row(2, x, 1, y)), rule(row(2, 1, far, far), row(1, far))),
		rule(row(4, 2, x, y), row(5, x, 1, y)),
		rule(row(4, 2, x, y), row(4, y)),
		rule(row(5, 1, far, far), row(4, far)))
	has(t, over(rule(row(1, 2, x, y), row(2, x, 1, y)), rule(row(1, 0), row(0))),
		rule(row(4, 2, x, y), row(4, y)))
}

// TestPartsOfTheLeftSide: a pair stays one, if its right side is a part of the left one, or the same.
func TestPartsOfTheLeftSide(t *testing.T) { // P13.2
	x, y := -1, -2
	has(t, over(rule(row(2, 2, x, y, y), row(2, x, y))), rule(row(5, 2, x, y, y), row(5, x, y)))
	has(t, over(rule(row(2, x, y), row(2, x, y))), rule(row(5, x, y), row(5, x, y)))
	has(t, over(rule(row(1, 1, x), row(1, x))), rule(row(4, 1, x), row(4, x)))
}

// TestSameRuleTwice: each rule has its pairs, and variables stay as they are.
func TestSameRuleTwice(t *testing.T) { // P13.2
	a, b := rule(row(1, -7), row(1, 1, -7)), rule(row(1, -3), row(1, 1, -3))
	has(t, over(a, b, a),
		rule(row(4, -7), row(4, 1, -7)), rule(row(4, -7), row(4, -7)),
		rule(row(4, -3), row(4, 1, -3)), rule(row(4, -3), row(4, -3)),
		rule(row(4, -7), row(4, 1, -7)), rule(row(4, -7), row(4, -7)))
}

// TestManySymbolsMarked: with just MaxSymbols symbols the last one's marked code is the last one of all.
func TestManySymbolsMarked(t *testing.T) { // P13.2
	s := api.System{Sig: many(api.MaxSymbols), Rules: rules(rule(row(63), row(62, 63, 0)))}
	has(t, s, rule(row(127), row(127)))
	s.Rules = append(s.Rules, rule(row(62, -1, -2), row(1, 63)), rule(row(0), row(63)))
	has(t, s, rule(row(127), row(126, 63, 0)), rule(row(127), row(127)), rule(row(127), row(64)), rule(row(126, -1, -2), row(127)), rule(row(64), row(127)))
}

// wide is a rule whose right side has so many defined symbols, none of them inside of another one: it defines s.
func wide(n int) api.Rule { return rule(row(1, -1), rake(slices.Repeat([][]int{{1, -1}}, n)...)) }

// deep is a rule whose right side has so many inside of one another.
func deep(n int) api.Rule { return rule(row(1, -1), tower(n+1, -1)) }

func TestManyPairs(t *testing.T) { // P13.2
	for n := range 171 {
		holdMany(t, over(wide(n)), n)
		holdMany(t, over(wide(n), wide(api.MaxPairs-n-86), wide(86)), api.MaxPairs)
		if n > 0 {
			hasNone(t, over(wide(n), wide(api.MaxPairs-n-85), wide(86)), api.ErrTooBig)
		}
	}
	for _, n := range []int{1, 2, 255, 256} {
		holdMany(t, over(deep(n)), n)
	}
	for _, n := range []int{257, 258, 511} {
		hasNone(t, over(deep(n)), api.ErrTooBig)
	}
	for n := range api.MaxRules + 1 {
		holdMany(t, over(slices.Repeat(rules(wide(4)), n)...), 4*n)
	}
	full := slices.Repeat(rules(wide(4)), api.MaxRules)
	for _, at := range []int{0, 1, 31, 62, 63} {
		more := slices.Clone(full)
		more[at] = wide(5)
		hasNone(t, over(more...), api.ErrTooBig)
		more[63-at] = wide(3)
		holdMany(t, over(more...), api.MaxPairs)
	}
	hasNone(t, over(slices.Repeat(rules(deep(511)), api.MaxRules)...), api.ErrTooBig)
	// a rule without any behind all that may be
	holdMany(t, over(deep(256), rule(row(1, 0), row(0))), api.MaxPairs)
}

func holdMany(t *testing.T, s api.System, n int) {
	t.Helper()
	if l, e := Of(s); e != api.OK || len(l) != n {
		t.Errorf("Of: %d, %v, want %d", len(l), e, n)
	}
}

func TestOfWrongSystems(t *testing.T) { // P13.2, R3
	for _, w := range wrongSystems() {
		hasNone(t, w.s, w.e)
	}
	// too many pairs ahead of the fault
	last := over(deep(257), rule(row(-1), row(0)))
	hasNone(t, last, api.ErrSystemVar)
	last.Rules[1] = rule(row(0), row(-1))
	hasNone(t, last, api.ErrSystemFree)
	last.Rules[1] = rule(row(0), row(5, 0, 0))
	hasNone(t, last, api.ErrTermCode)
	last.Sig[1].Name = "s#"
	hasNone(t, last, api.ErrSigName)
}

// plainPairs reads the promise again, from the root of each right side down.
func plainPairs(s api.System) []api.Rule {
	var l []api.Rule
	n := len(s.Sig)
	for _, a := range s.Rules {
		var down func(at int)
		down = func(at int) {
			part := partAt(s.Sig, a.R, at)
			for _, b := range s.Rules {
				if part[0] == b.L[0] {
					l = append(l, rule(slices.Concat(row(a.L[0]+n), a.L[1:]), slices.Concat(row(part[0]+n), part[1:])))
					break
				}
			}
			kid := at + 1
			for range arityOf(s.Sig, part[0]) {
				down(kid)
				kid += len(partAt(s.Sig, a.R, kid))
			}
		}
		down(0)
	}
	return l
}

// TestOfDrawnSystems: the pairs are as the promise says, and terms over the extended signature; no variable is new.
func TestOfDrawnSystems(t *testing.T) { // P13.2
	r := random(2)
	told := 0
	for range 2000 {
		s := r.system()
		want := plainPairs(s)
		has(t, s, want...)
		told += len(want)
		sig, _ := Extend(s.Sig)
		l, _ := Of(s)
		for _, p := range l {
			if e, _ := system.Check(api.System{Sig: unmarked(sig), Rules: rules(p)}); e != api.OK {
				t.Fatalf("Of(%v): %v: %v", s, p, e)
			}
			if term.Check(sig, p.L) != api.OK || p.L[0] < len(s.Sig) || p.R[0] < len(s.Sig) {
				t.Fatalf("Of(%v): %v", s, p)
			}
		}
	}
	if told < 3000 {
		t.Errorf("only %d pairs", told)
	}
	for _, s := range smallSystems() {
		has(t, s, plainPairs(s)...)
	}
}

// unmarked gives the marked symbols other names, which a system may have.
func unmarked(sig []api.Symbol) []api.Symbol {
	out := slices.Clone(sig)
	for i := len(sig) / 2; i < len(sig); i++ {
		out[i].Name = "m" + out[i].Name[:len(out[i].Name)-1]
	}
	return out
}
