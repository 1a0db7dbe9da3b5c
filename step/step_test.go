package step

import (
	"slices"
	"testing"

	"lodestone/api"
)

func TestExamples(t *testing.T) { // P8.1, P8.2, P8.3
	finds(t, sums(), row(2, 2, 0, 0, 2, 0, 0), redex(1, 0), redex(4, 0))
	comesTo(t, sums(), row(2, 2, 0, 0, 2, 0, 0), redex(1, 0))
	finds(t, sums(), row(2, 0, 2, 1, 0, 0), redex(0, 0), redex(2, 1))
	comesTo(t, sums(), row(2, 0, 2, 1, 0, 0), redex(2, 1))
	finds(t, sums(), row(-1))
	comesToNone(t, sums(), row(1, 0))
	becomes(t, sums(), row(2, 1, 0, 0), redex(0, 1), 1, 2, 0, 0)
	fails(t, sums(), row(2, 1, 0, 0), redex(0, 0), api.ErrStepNone)
	fails(t, sums(), row(2, 1, 0, 0), redex(4, 1), api.ErrTermPlace)
	fails(t, sums(), row(2, 1, 0, 0), redex(0, 2), api.ErrArg)
}

// TestPath is the path of DOC.md's first example.
func TestPath(t *testing.T) { // P8.2, P8.3
	comesTo(t, sums(), row(2, 1, 0, 1, 0), redex(0, 1))
	becomes(t, sums(), row(2, 1, 0, 1, 0), redex(0, 1), 1, 2, 0, 1, 0)
	comesTo(t, sums(), row(1, 2, 0, 1, 0), redex(1, 0))
	becomes(t, sums(), row(1, 2, 0, 1, 0), redex(1, 0), 1, 1, 0)
	comesToNone(t, sums(), row(1, 1, 0))
}

// TestPlainBindsAreAll holds the tests' own matching against all binds that might be.
func TestPlainBindsAreAll(t *testing.T) {
	some := func(l, part []int) bool {
		for a := range part {
			for b := range part {
				s := []api.Bind{bind(0, partAt(three(), part, a)...), bind(1, partAt(three(), part, b)...)}
				if slices.Equal(made(s, l), part) {
					return true
				}
			}
		}
		return false
	}
	for _, l := range smallTerms(5, 2) {
		for _, part := range smallTerms(5, 1) {
			binds, ok := plainBinds(three(), l, part)
			if ok != some(l, part) || ok && !slices.Equal(made(binds, l), part) {
				t.Fatalf("%v and %v: %v, %v", l, part, binds, ok)
			}
		}
	}
}

func TestSmallTerms(t *testing.T) { // P8.1, P8.2, P8.3
	for _, s := range smallSystems() {
		for _, u := range smallTerms(6, 2) {
			likePlain(t, s, u)
		}
	}
}

func TestDrawnTerms(t *testing.T) { // P8.1, P8.2, P8.3
	r := random(1)
	several, none := 0, 0
	for range 400 {
		s := r.system()
		u := r.subject(s)
		likePlain(t, s, u)
		switch l := plainAll(s, u); {
		case len(l) > 3:
			several++
		case len(l) == 0:
			none++
		}
	}
	if several < 50 || none < 10 {
		t.Errorf("only %d terms with several redexes, %d with none", several, none)
	}
}

func TestNoRedex(t *testing.T) { // P8.1, P8.2, P8.3
	for _, u := range [][]int{{0}, {1, 0}, {2, -1, 0}, {2, -1, -1}, {1, 1, 2, -1, 1, 0}, {2, 2, -1, 0, 0}, tower(512, -1)} {
		finds(t, sums(), u)
		comesToNone(t, sums(), u)
		for at := range u {
			fails(t, sums(), u, redex(at, 0), api.ErrStepNone)
			fails(t, sums(), u, redex(at, 1), api.ErrStepNone)
		}
	}
}

// TestVariableAlone: no left side is a variable, so a variable's place has no redex, even where a rule has that variable.
func TestVariableAlone(t *testing.T) { // P8.1, P8.2, P8.3
	for _, s := range smallSystems() {
		for _, code := range row(-1, -2, -api.MaxVar) {
			finds(t, s, row(code))
			comesToNone(t, s, row(code))
			for i := range s.Rules {
				fails(t, s, row(code), redex(0, i), api.ErrStepNone)
			}
		}
	}
}

// TestVariablesAreLeaves: a term's variables become nothing else, and a rule's of the same number are others.
func TestVariablesAreLeaves(t *testing.T) { // P8.1, P8.3
	s := over(rule(row(2, 0, -1), row(1, -1)))
	finds(t, s, row(2, -1, 0))
	finds(t, s, row(2, 0, -1), redex(0, 0))
	becomes(t, s, row(2, 0, 1, -1), redex(0, 0), 1, 1, -1)
	becomes(t, s, row(2, 0, 2, -2, -1), redex(0, 0), 1, 2, -2, -1)
	turned := over(rule(row(2, -1, -2), row(2, -2, -1)))
	becomes(t, turned, row(2, -2, -1), redex(0, 0), 2, -1, -2)
	becomes(t, turned, row(2, 1, -2, 1, -1), redex(0, 0), 2, 1, -1, 1, -2)
}

func TestNoRules(t *testing.T) { // P8.1, P8.2, P8.3, R4
	for _, s := range []api.System{over(), {Sig: three(), Rules: []api.Rule{}}} {
		for _, u := range smallTerms(4, 1) {
			finds(t, s, u)
			comesToNone(t, s, u)
			fails(t, s, u, redex(0, 0), api.ErrArg)
			fails(t, s, u, redex(len(u), 0), api.ErrTermPlace)
		}
	}
	// without a symbol there are variables alone
	finds(t, api.System{}, row(-1))
	comesToNone(t, api.System{}, row(-1))
	fails(t, api.System{}, row(-1), redex(0, 0), api.ErrArg)
	fails(t, api.System{}, row(0), redex(0, 0), api.ErrTermCode)
	fails(t, api.System{}, nil, redex(0, 0), api.ErrTermShort)
}

func TestSeveralRulesAtOnePlace(t *testing.T) { // P8.1, P8.2, P8.3
	s := over(rule(row(2, -1, 1, -2), row(0)), rule(row(2, -1, -2), row(-1)), rule(row(1, 0), row(0)), rule(row(2, -1, -2), row(-2)), rule(row(2, 0, 0), row(0)), rule(row(2, -1, -2), row(-1)))
	finds(t, s, row(2, 0, 0), redex(0, 1), redex(0, 3), redex(0, 4), redex(0, 5))
	comesTo(t, s, row(2, 0, 0), redex(0, 1))
	finds(t, s, row(2, 0, 1, -1), redex(0, 0), redex(0, 1), redex(0, 3), redex(0, 5))
	comesTo(t, s, row(2, 0, 1, -1), redex(0, 0))
	becomes(t, s, row(2, 0, 1, -1), redex(0, 0), 0)
	becomes(t, s, row(2, 0, 1, -1), redex(0, 1), 0)
	becomes(t, s, row(2, 0, 1, -1), redex(0, 3), 1, -1)
	// places go ahead of rules
	finds(t, s, row(2, 1, 0, 0), redex(0, 1), redex(0, 3), redex(0, 5), redex(1, 2))
	comesTo(t, s, row(2, 1, 0, 0), redex(1, 2))
}

func TestBelowAndLeft(t *testing.T) { // P8.1, P8.2
	s := over(rule(row(1, -1), row(-1)), rule(row(2, -1, -2), row(-1)))
	// one below the other: the lowest
	finds(t, s, tower(5, 0), redex(0, 0), redex(1, 0), redex(2, 0), redex(3, 0))
	comesTo(t, s, tower(5, 0), redex(3, 0))
	// beside one another: the left one, though the right one is deeper
	finds(t, s, row(2, 1, 0, 1, 1, 0), redex(0, 1), redex(1, 0), redex(3, 0), redex(4, 0))
	comesTo(t, s, row(2, 1, 0, 1, 1, 0), redex(1, 0))
	// none on the left: the right one ahead of the root
	comesTo(t, s, row(2, 0, 1, 0), redex(2, 0))
	comesTo(t, s, row(2, -1, 2, 0, 1, -2), redex(4, 0))
	comesTo(t, s, row(2, 2, 0, 0, 1, 0), redex(1, 1))
	comesTo(t, s, row(2, 0, 0), redex(0, 1))
	// a redex above, one to the left below it, one to the right, below a node without one
	two := over(rule(row(2, 1, -1, -2), row(-2)), rule(row(2, 0, -1), row(-1)))
	finds(t, two, row(2, 1, 2, 0, 0, 1, 2, 0, 0), redex(0, 0), redex(2, 1), redex(6, 1))
	comesTo(t, two, row(2, 1, 2, 0, 0, 1, 2, 0, 0), redex(2, 1))
}

func TestLeaves(t *testing.T) { // P8.1, P8.2, P8.3
	s := over(rule(row(0), row(1, 0)), rule(row(2, 0, 0), row(0)))
	finds(t, s, row(0), redex(0, 0))
	finds(t, s, row(2, 0, 0), redex(0, 1), redex(1, 0), redex(2, 0))
	comesTo(t, s, row(2, 0, 0), redex(1, 0))
	comesTo(t, s, row(2, -1, 1, 0), redex(3, 0))
	becomes(t, s, row(2, 0, 0), redex(2, 0), 2, 0, 1, 0)
	becomes(t, s, row(2, 0, 0), redex(1, 0), 2, 1, 0, 0)
	becomes(t, s, row(2, 0, 0), redex(0, 1), 0)
}

func TestTwiceAlike(t *testing.T) { // P8.1, P8.2, P8.3
	s := over(rule(row(2, -1, -1), row(1, -1)), rule(row(2, 1, -5, 2, -5, -2), row(2, -2, -5)))
	finds(t, s, row(2, 1, 0, 1, 0), redex(0, 0))
	becomes(t, s, row(2, 1, 0, 1, 0), redex(0, 0), 1, 1, 0)
	for _, u := range [][]int{{2, 0, 1, 0}, {2, 1, 0, 0}, {2, -1, -2}, {2, 1, -1, 1, -2}, {2, 0, -1}, {2, 1, 0, 2, -1, 0}} {
		finds(t, s, u)
		comesToNone(t, s, u)
		fails(t, s, u, redex(0, 0), api.ErrStepNone)
		fails(t, s, u, redex(0, 1), api.ErrStepNone)
	}
	finds(t, s, row(2, -9, -9), redex(0, 0))
	becomes(t, s, row(2, 1, 1, -1, 2, 1, -1, 0), redex(0, 1), 2, 0, 1, -1)
	// alike below, not alike above, for what stands beside
	finds(t, s, row(2, 2, 0, 0, 1, 0), redex(1, 0))
}

func TestOftenOrNotAtAll(t *testing.T) { // P8.3
	s := over(rule(row(2, -1, -2), row(2, -2, 2, -2, -2)), rule(row(2, -1, -2), row(0)), rule(row(2, -1, -2), row(1, -1)), rule(row(1, -1), row(2, -1, 1, -1)))
	u := row(2, 2, 1, -7, 2, 0, -1, 0)
	becomes(t, s, u, redex(0, 0), 2, 0, 2, 0, 0)
	becomes(t, s, u, redex(1, 0), 2, 2, 2, 0, -1, 2, 2, 0, -1, 2, 0, -1, 0)
	becomes(t, s, u, redex(0, 1), 0)
	becomes(t, s, u, redex(1, 1), 2, 0, 0)
	becomes(t, s, u, redex(4, 1), 2, 2, 1, -7, 0, 0)
	becomes(t, s, u, redex(0, 2), 1, 2, 1, -7, 2, 0, -1)
	becomes(t, s, u, redex(1, 2), 2, 1, 1, -7, 0)
	becomes(t, s, u, redex(2, 3), 2, 2, 2, -7, 1, -7, 2, 0, -1, 0)
}

// TestSameAgain: a step may lead back to the term.
func TestSameAgain(t *testing.T) { // P8.3
	s := over(rule(row(1, -1), row(1, -1)), rule(row(2, -1, -2), row(2, -2, -1)))
	becomes(t, s, row(2, 1, 0, -1), redex(1, 0), 2, 1, 0, -1)
	becomes(t, s, row(1, 2, 0, 0), redex(1, 1), 1, 2, 0, 0)
}

func TestNoNodeNoRuleNoRedex(t *testing.T) { // P8.3, R2
	u := row(2, 1, 0, 0)
	for _, at := range row(-1<<63, -5, -1, 4, 5, 512, 1<<63-1) {
		for _, i := range row(-1<<63, -1, 0, 1, 2, 1<<63-1) {
			fails(t, sums(), u, redex(at, i), api.ErrTermPlace)
		}
	}
	for at := range u {
		for _, i := range row(-1<<63, -1, 2, 3, 64, 1<<63-1) {
			fails(t, sums(), u, redex(at, i), api.ErrArg)
		}
		fails(t, sums(), u, redex(at, 0), api.ErrStepNone)
		if at > 0 {
			fails(t, sums(), u, redex(at, 1), api.ErrStepNone)
		}
	}
}

// TestGreatestSystem has all symbols and all rules that may be: the last of each counts.
func TestGreatestSystem(t *testing.T) { // P8.1, P8.2, P8.3
	s := api.System{Sig: many(api.MaxSymbols)}
	for i := range api.MaxRules {
		l := partAt(s.Sig, row(i, -api.MaxVar, -1), 0)
		s.Rules = append(s.Rules, rule(l, row(63)))
	}
	finds(t, s, row(63), redex(0, 63))
	finds(t, s, row(62, 61, 60, -9), redex(0, 62), redex(1, 61), redex(2, 60))
	comesTo(t, s, row(62, 61, 60, -9), redex(2, 60))
	becomes(t, s, row(62, 61, 60, -9), redex(1, 61), 62, 63, -9)
	fails(t, s, row(62, 61, 60, -9), redex(1, 64), api.ErrArg)
	same := over(slices.Repeat([]api.Rule{rule(row(0), row(1, 0))}, api.MaxRules)...)
	if l := All(same, row(2, 0, 0)); len(l) != 128 || l[0] != redex(1, 0) || l[63] != redex(1, 63) || l[64] != redex(2, 0) || l[127] != redex(2, 63) {
		t.Errorf("%v", l)
	}
	wide := api.System{Sig: all(), Rules: []api.Rule{rule(row(8, -1, -2, -3, -4, -5, -6, -7, -8), row(8, -8, -7, -6, -5, -4, -3, -2, -1))}}
	becomes(t, wide, row(1, 8, 0, -1, 0, -2, 0, -3, 1, 0, -4), redex(1, 0), 1, 8, -4, 1, 0, -3, 0, -2, 0, -1, 0)
}
