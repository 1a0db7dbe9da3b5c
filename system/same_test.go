package system

import (
	"slices"
	"testing"

	"lodestone/api"
)

func TestSameExample(t *testing.T) { // P7.3
	same(t, sums(), over(rule(row(2, 1, -5, -1), row(1, 2, -5, -1)), rule(row(2, 0, -9), row(-9))), true)
}

func TestSameSignatures(t *testing.T) { // P7.3
	with := func(sig ...api.Symbol) api.System {
		return api.System{Sig: sig, Rules: []api.Rule{rule(row(0), row(0))}}
	}
	f, g := sym("f", 0), sym("g", 1)
	same(t, with(f, g), with(f, g), true)
	same(t, with(f, g), with(f, sym("h", 1)), false)
	same(t, with(f, g), with(sym("h", 0), g), false)
	same(t, with(f, g), with(f, sym("G", 1)), false)
	same(t, with(f, g), with(f, sym("g", 2)), false)
	same(t, with(f, g), with(f), false)
	same(t, with(f, g), with(f, g, sym("h", 0)), false)
	same(t, with(f, sym("g", 0)), with(sym("g", 0), f), false)
	same(t, api.System{Sig: []api.Symbol{g, f}}, api.System{Sig: []api.Symbol{f, g}}, false)
	same(t, api.System{Sig: []api.Symbol{g}}, api.System{Sig: []api.Symbol{f}}, false)
	same(t, api.System{Sig: many(api.MaxSymbols)}, api.System{Sig: many(api.MaxSymbols)}, true)
	same(t, api.System{Sig: many(api.MaxSymbols)}, api.System{Sig: many(api.MaxSymbols - 1)}, false)
}

func TestSameNumbersOfRules(t *testing.T) { // P7.3
	a, b := sums().Rules[0], sums().Rules[1]
	same(t, over(a), over(a, a), false)
	same(t, over(a, b), over(a), false)
	same(t, over(a, b), over(a, b, b), false)
	same(t, over(), over(a), false)
	same(t, over(a, a), over(a, a), true)
	same(t, over(a, a, b), over(b, a, a), true)
	same(t, over(a, a, b), over(a, b, b), false)
	same(t, over(a, b, b, a), over(b, a, a, b), true)
	same(t, over(a, b, b, a), over(b, a, b, b), false)
}

// TestSameOfLikeShapes has rules that differ in nothing but which variables are alike, or in one code.
func TestSameOfLikeShapes(t *testing.T) { // P7.3
	left, right := rule(row(2, -1, -2), row(-1)), rule(row(2, -1, -2), row(-2))
	leftToo, rightToo := rule(row(2, -7, -3), row(-7)), rule(row(2, -7, -3), row(-3))
	alike := rule(row(2, -1, -1), row(-1))
	same(t, over(left), over(leftToo), true)
	same(t, over(left), over(rightToo), false)
	same(t, over(left), over(alike), false)
	same(t, over(left, right), over(rightToo, leftToo), true)
	same(t, over(left, right), over(rightToo, right), false)
	same(t, over(left, left, right), over(leftToo, rightToo, left), true)
	same(t, over(left, left, right), over(leftToo, rightToo, right), false)
	same(t, over(left, right, alike), over(alike, rightToo, left), true)
	same(t, over(left, right, alike), over(alike, alike, left), false)
	same(t, over(rule(row(1, 1, 0), row(0))), over(rule(row(1, 0), row(0))), false)
	same(t, over(rule(row(1, 0), row(0))), over(rule(row(1, 0), row(1, 0))), false)
	same(t, over(rule(row(2, 0, 1, 0), row(0))), over(rule(row(2, 1, 0, 0), row(0))), false)
	same(t, over(rule(row(2, 0, -1), row(0))), over(rule(row(2, 0, 0), row(0))), false)
	same(t, over(rule(row(2, 0, -1), row(0))), over(rule(row(2, -1, 0), row(0))), false)
	same(t, over(rule(row(2, -1, -2), row(2, -2, -1))), over(rule(row(2, -1, -2), row(2, -1, -2))), false)
	same(t, over(rule(row(2, -1, -2), row(2, -2, -1))), over(rule(row(2, -2, -1), row(2, -1, -2))), true)
}

func TestSameIsNotTurnedRound(t *testing.T) { // P7.3
	same(t, over(rule(row(1, 0), row(0))), over(rule(row(0), row(1, 0))), false)
	same(t, over(rule(row(1, -1), row(1, 1, -1))), over(rule(row(1, 1, -1), row(1, -1))), false)
	same(t, over(rule(row(2, -1, -2), row(2, -2, -2))), over(rule(row(2, -2, -2), row(2, -2, -2))), false)
}

func TestSameOfWrongSystems(t *testing.T) { // P7.3, R3
	for _, w := range wrongSystems() {
		same(t, w.s, w.s, false)
		same(t, w.s, sums(), false)
		same(t, w.s, over(), false)
		// the other one has the wrong one's signature, or its rules
		same(t, w.s, api.System{Sig: w.s.Sig}, false)
		same(t, w.s, over(w.s.Rules...), false)
		// or just as many rules
		same(t, w.s, over(slices.Repeat(sums().Rules, 32)[:min(len(w.s.Rules), api.MaxRules)]...), false)
	}
}

// TestSameOfTheGreatest has as many rules of as many nodes as may be.
func TestSameOfTheGreatest(t *testing.T) { // P7.3
	rules := func(v, w int) api.System {
		s := over()
		for i := range api.MaxRules {
			l := slices.Concat(row(2), tower(api.MaxNodes-2-i%2, -1-v), row(-1-w))
			s.Rules = append(s.Rules, rule(l, tower(api.MaxNodes-i/8, -1-v)))
		}
		return s
	}
	a, b := rules(0, 1), rules(api.MaxVar-1, 5)
	slices.Reverse(b.Rules)
	same(t, a, b, true)
	b.Rules[0].R[api.MaxNodes-8] = -1 - 5 // the last variable of the side becomes the other one
	same(t, a, b, false)
	same(t, rules(0, 1), rules(3, 3), false)
}

// pool are rules of which some are variants of one another, and most have one shape.
func pool() []api.Rule {
	return []api.Rule{
		rule(row(2, -1, -2), row(-1)), rule(row(2, -2, -1), row(-2)), rule(row(2, -2, -1), row(-1)),
		rule(row(2, -1, -1), row(-1)), rule(row(2, -1, 0), row(-1)), rule(row(1, -1), row(-1)), rule(row(1, -api.MaxVar), row(-api.MaxVar)),
	}
}

// systemsOf are all systems over three with at most n rules, each of which is one of the pool.
func systemsOf(n int) []api.System {
	l := []api.System{over()}
	for i := 0; len(l[i].Rules) < n; i++ {
		for _, r := range pool() {
			l = append(l, over(append(slices.Clone(l[i].Rules), r)...))
		}
	}
	return l
}

// TestSameIsAsSaid holds all systems of at most three rules of the pool against each other.
func TestSameIsAsSaid(t *testing.T) { // P7.3
	systems := systemsOf(3)
	for _, a := range systems {
		for _, b := range systems {
			if want := sameRules(a, b); Same(a, b) != want {
				t.Fatalf("Same(%v, %v): not %v", a.Rules, b.Rules, want)
			}
		}
	}
}

func TestSameIsAnEquivalence(t *testing.T) { // P7.4
	systems := systemsOf(2)
	systems = append(systems, sums(), api.System{}, api.System{Sig: all()})
	is := make([][]bool, len(systems))
	for i, a := range systems {
		for _, b := range systems {
			is[i] = append(is[i], Same(a, b))
		}
	}
	for i := range systems {
		if !is[i][i] {
			t.Fatalf("%v is not the same as itself", systems[i])
		}
		for j := range systems {
			if is[i][j] != is[j][i] {
				t.Fatalf("%v and %v: one way alone", systems[i], systems[j])
			}
			for k := range systems {
				if is[i][j] && is[j][k] && !is[i][k] {
					t.Fatalf("%v, %v and %v: not the first and the last", systems[i], systems[j], systems[k])
				}
			}
		}
	}
}

// TestOrderAndVariablesAreAllTheSame holds drawn systems against disguised ones, and these against each other.
func TestOrderAndVariablesAreAllTheSame(t *testing.T) { // P7.4
	r := random(3)
	for range 300 {
		a := r.system(r.below(20))
		for i := range a.Rules {
			if r.below(4) == 0 {
				a.Rules[i] = a.Rules[0]
			}
		}
		b, c := r.disguised(a), r.disguised(a)
		same(t, a, b, true)
		same(t, a, c, true)
		same(t, b, c, true)
	}
	greatest := r.system(api.MaxRules)
	same(t, greatest, r.disguised(greatest), true)
}

// TestOneOtherRule changes one rule of a disguised system.
func TestOneOtherRule(t *testing.T) { // P7.3, P7.4
	r := random(4)
	for range 500 {
		a := r.system(1 + r.below(10))
		b := r.disguised(a)
		b.Rules[r.below(len(b.Rules))] = r.rule()
		same(t, a, b, sameRules(a, b))
		c := r.disguised(a)
		c.Rules[r.below(len(c.Rules))] = c.Rules[r.below(len(c.Rules))]
		same(t, a, c, sameRules(a, c))
	}
}
