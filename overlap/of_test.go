package overlap

import (
	"math"
	"testing"

	"lodestone/api"
)

// letters are the constants a 0, b 1, c 2, and f 3, g 4, h 5 with one argument, p 6 with two, q 7 with three.
func letters(rules ...api.Rule) api.System {
	sig := []api.Symbol{sym("a", 0), sym("b", 0), sym("c", 0), sym("f", 1), sym("g", 1), sym("h", 1), sym("p", 2), sym("q", 3)}
	return api.System{Sig: sig, Rules: rules}
}

func TestExamples(t *testing.T) { // P17.1, P17.2
	twice := api.System{Sig: []api.Symbol{sym("f", 1), sym("g", 1)}, Rules: rules(rule(row(0, 0, -1), row(1, -1)))}
	has(t, twice, api.Critical{At: 1, Spot: 1, Peak: row(0, 0, 0, -1), L: row(0, 1, -1), R: row(1, 0, -1)})
	has(t, sums())
	has(t, letters(rule(row(0), row(1)), rule(row(0), row(2))),
		api.Critical{Outer: 0, Inner: 1, Peak: row(0), L: row(2), R: row(1)},
		api.Critical{Outer: 1, Inner: 0, Peak: row(0), L: row(1), R: row(2)})
	has(t, letters(rule(row(6, -1, 3, -1), row(-1)), rule(row(3, 5, -2), row(-2))),
		api.Critical{Outer: 0, Inner: 1, At: 2, Spot: 3, Peak: row(6, 5, -1, 3, 5, -1), L: row(6, 5, -1, -1), R: row(5, -1)})
}

func TestNoSuchRule(t *testing.T) { // P17.1
	for _, s := range []api.System{{}, over(), sums()} {
		for _, number := range []int{-1, -2, math.MinInt, len(s.Rules), len(s.Rules) + 1, api.MaxRules, math.MaxInt} {
			for _, other := range []int{0, 1, number} {
				meetNot(t, s, number, other, api.ErrArg)
				meetNot(t, s, other, number, api.ErrArg)
			}
		}
	}
}

// TestWrongSystem: what is wrong with a system is told ahead of numbers of which there is no rule.
func TestWrongSystem(t *testing.T) { // P17.1, P17.2
	for _, w := range wrongSystems() {
		hasNot(t, w.s, w.e)
		for _, number := range []int{0, 1, -1, 2, 65, math.MinInt, math.MaxInt} {
			meetNot(t, w.s, number, 0, w.e)
			meetNot(t, w.s, 0, number, w.e)
			meetNot(t, w.s, number, number, w.e)
		}
	}
}

// TestOverItself: at the root a rule is not laid over itself, below it it is; a rule that stands twice is laid over the other one at the root, too.
func TestOverItself(t *testing.T) { // P17.1
	r := rule(row(3, 3, 3, -1), row(-1))
	once := pairs(
		api.Critical{At: 1, Spot: 1, Peak: row(3, 3, 3, 3, -1), L: row(3, -1), R: row(3, -1)},
		api.Critical{At: 2, Spot: 2, Peak: row(3, 3, 3, 3, 3, -1), L: row(3, 3, -1), R: row(3, 3, -1)})
	meet(t, letters(r), 0, 0, once...)
	s := letters(rule(row(0), row(1)), r, r)
	root := api.Critical{Outer: 1, Inner: 2, Peak: row(3, 3, 3, -1), L: row(-1), R: row(-1)}
	for _, numbers := range [][2]int{{1, 1}, {1, 2}, {2, 1}, {2, 2}} {
		var want []api.Critical
		if numbers[0] != numbers[1] {
			want = pairs(root)
		}
		want = append(want, once...)
		for i := range want {
			want[i].Outer, want[i].Inner = numbers[0], numbers[1]
		}
		meet(t, s, numbers[0], numbers[1], want...)
	}
	meet(t, letters(rule(row(6, -1, -2), row(6, -2, -1))), 0, 0)
	meet(t, letters(rule(row(0), row(0))), 0, 0)
}

// TestVariablesArePassedOver: a rule can be unified with any variable, but no pair is told of these places.
func TestVariablesArePassedOver(t *testing.T) { // P17.1
	s := letters(rule(row(6, -1, 3, -2), row(-1)), rule(row(3, -1), row(0)), rule(row(4, -1), row(-1)))
	meet(t, s, 0, 1, api.Critical{Outer: 0, Inner: 1, At: 2, Spot: 2, Peak: row(6, -1, 3, -2), L: row(6, -1, 0), R: row(-1)})
	meet(t, s, 0, 2)
	meet(t, s, 1, 0)
	meet(t, s, 2, 1)
	meet(t, s, 2, 2)
}

// TestNamedAlike: one number is another variable in each of the two rules.
func TestNamedAlike(t *testing.T) { // P17.1
	// with its own x, f(g(x)) would have to be f(x)
	s := letters(rule(row(6, -1, 3, 4, -1), row(-1)), rule(row(3, -1), row(5, -1)))
	meet(t, s, 0, 1, api.Critical{Outer: 0, Inner: 1, At: 2, Spot: 2, Peak: row(6, -1, 3, 4, -1), L: row(6, -1, 5, 4, -1), R: row(-1)})
	// and p(x, y) would have to be p(y, x)
	s = letters(rule(row(3, 6, -1, -2), row(6, -1, -2)), rule(row(6, -2, -1), row(3, -2)))
	meet(t, s, 0, 1, api.Critical{Outer: 0, Inner: 1, At: 1, Spot: 1, Peak: row(3, 6, -1, -2), L: row(3, 3, -1), R: row(6, -1, -2)})
	// the greatest variable is one as any other
	far := -api.MaxVar
	s = letters(rule(row(6, far, 3, 4, far), row(far)), rule(row(3, far), row(5, far)))
	meet(t, s, 0, 1, api.Critical{Outer: 0, Inner: 1, At: 2, Spot: 2, Peak: row(6, -1, 3, 4, -1), L: row(6, -1, 5, 4, -1), R: row(-1)})
}

// TestAnyNumbers: whatever numbers the variables of the one rule have, and those of the other one, the answer is the same.
func TestAnyNumbers(t *testing.T) { // P17.1
	numbers := []int{api.MaxVar / 2, api.MaxVar - 513, api.MaxVar - 512, api.MaxVar - 511, api.MaxVar - 1}
	for n := range 1100 {
		numbers = append(numbers, n)
	}
	want := api.Critical{Outer: 0, Inner: 1, At: 2, Spot: 2, Peak: row(6, -1, 3, 4, -1), L: row(6, -1, 5, 4, -1), R: row(-1)}
	for _, n := range numbers {
		x := -1 - n
		meet(t, letters(rule(row(6, x, 3, 4, x), row(x)), rule(row(3, -1), row(5, -1))), 0, 1, want)
		meet(t, letters(rule(row(6, -1, 3, 4, -1), row(-1)), rule(row(3, x), row(5, x))), 0, 1, want)
	}
}

// TestNothingUnifies: unlike symbols, a variable that would have to be two terms, and one that would have to be a part of itself.
func TestNothingUnifies(t *testing.T) { // P17.1
	s := letters(
		rule(row(6, 3, 0, 6, -1, -1), row(0)),
		rule(row(3, 1), row(0)),
		rule(row(6, 4, -1, 5, -1), row(0)),
		rule(row(6, -1, 3, -1), row(0)),
		rule(row(7, 6, -1, -1, -1, -1), row(0)))
	meet(t, s, 0, 1)
	meet(t, s, 0, 2)
	meet(t, s, 0, 3)
	meet(t, s, 1, 0)
	meet(t, s, 4, 2)
	meet(t, s, 4, 3)
	meet(t, s, 4, 4)
	meet(t, s, 2, 3)
}

// TestPlaceByPlace: the places rise; where nothing unifies in between, none is told.
func TestPlaceByPlace(t *testing.T) { // P17.1
	// q(f(a), f(b), p(f(x), f(f(y)))): f(a) is laid over all of f but the second one and the outer one of two
	s := letters(rule(row(7, 3, 0, 3, 1, 6, 3, -1, 3, 3, -2), row(3, -2)), rule(row(3, 0), row(2)))
	meet(t, s, 0, 1,
		api.Critical{
			Inner: 1, At: 1, Spot: 1, Peak: row(7, 3, 0, 3, 1, 6, 3, -1, 3, 3, -2),
			L: row(7, 2, 3, 1, 6, 3, -1, 3, 3, -2), R: row(3, -2)},
		api.Critical{
			Inner: 1, At: 6, Spot: 6, Peak: row(7, 3, 0, 3, 1, 6, 3, 0, 3, 3, -1),
			L: row(7, 3, 0, 3, 1, 6, 2, 3, 3, -1), R: row(3, -1)},
		api.Critical{
			Inner: 1, At: 9, Spot: 9, Peak: row(7, 3, 0, 3, 1, 6, 3, -1, 3, 3, 0),
			L: row(7, 3, 0, 3, 1, 6, 3, -1, 3, 2), R: row(3, 0)})
}

// TestSpot: terms ahead of the place get more nodes; those behind it, and those in it, do not count.
func TestSpot(t *testing.T) { // P17.1
	// q(x, y, p(x, p(y, z))): x becomes g(h(u)), y b
	s := letters(
		rule(row(7, -1, -2, 6, -1, 6, -2, -3), row(-3)),
		rule(row(6, 4, 5, -1, 6, 1, -1), row(-1)))
	meet(t, s, 0, 1,
		api.Critical{
			Inner: 1, At: 3, Spot: 5, Peak: row(7, 4, 5, -1, 1, 6, 4, 5, -1, 6, 1, -1),
			L: row(7, 4, 5, -1, 1, -1), R: row(-1)},
		api.Critical{
			Inner: 1, At: 5, Spot: 7, Peak: row(7, -1, 4, 5, -2, 6, -1, 6, 4, 5, -2, 6, 1, -2),
			L: row(7, -1, 4, 5, -2, 6, -1, -2), R: row(6, 1, -2)})
	// x, behind the place and within it, becomes g(g(u))
	s = letters(rule(row(7, 3, -1, -1, 0), row(0)), rule(row(3, 4, 4, -1), row(-1)))
	meet(t, s, 0, 1, api.Critical{Inner: 1, At: 1, Spot: 1, Peak: row(7, 3, 4, 4, -1, 4, 4, -1, 0), L: row(7, -1, 4, 4, -1, 0), R: row(0)})
}

// TestNumbering: as the variables are met in L, then in R, then in Peak.
func TestNumbering(t *testing.T) { // P17.1
	// in L none, in R y and x, in Peak z and u beside them
	s := letters(rule(row(3, 7, -1, -2, 6, -3, -4), row(6, -2, -1)), rule(row(7, -1, -2, -3), row(0)))
	meet(t, s, 0, 1, api.Critical{Inner: 1, At: 1, Spot: 1, Peak: row(3, 7, -2, -1, 6, -3, -4), L: row(3, 0), R: row(6, -1, -2)})
	// in L z and x, in R y ahead of both
	s = letters(rule(row(3, 7, -1, -2, -3), row(7, -2, -3, -1)), rule(row(7, -1, -2, -3), row(6, -3, -1)))
	meet(t, s, 0, 1, api.Critical{Inner: 1, At: 1, Spot: 1, Peak: row(3, 7, -2, -3, -1), L: row(3, 6, -1, -2), R: row(7, -3, -1, -2)})
	// in Peak alone: numbers that no side has
	s = letters(rule(row(3, 6, -7, -9), row(0)), rule(row(6, -5, -8), row(1)))
	meet(t, s, 0, 1, api.Critical{Inner: 1, At: 1, Spot: 1, Peak: row(3, 6, -1, -2), L: row(3, 1), R: row(0)})
}
