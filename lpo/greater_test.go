package lpo

import (
	"slices"
	"testing"

	"lodestone/api"
)

func TestGreaterExamples(t *testing.T) { // P11.1
	over, none := closed(t, 3, pair(2, 1)), closed(t, 3)
	wants(t, three(), over, row(2, 1, -1, -2), row(1, 2, -1, -2), true)
	wants(t, three(), over, row(1, 2, -1, -2), row(2, 1, -1, -2), false)
	wants(t, three(), over, row(2, 0, -2), row(-2), true)
	wants(t, three(), over, row(-1), row(-1), false)
	wants(t, three(), over, row(1, -1), row(-2), false)
	wants(t, three(), over, row(2, 1, 0, 0), row(2, 0, 1, 0), true)
	wants(t, three(), over, row(2, 0, 1, 0), row(2, 1, 0, 0), false)
	wants(t, three(), none, row(1, 0), row(0), true)
	wants(t, three(), none, row(2, -1, 0), row(1, -1), false)
	wants(t, three(), over, row(2, -1, 0), row(1, -1), true)
}

// TestSmallTerms holds all pairs of small terms, under all precedences of three symbols, against the plain reading.
func TestSmallTerms(t *testing.T) { // P11.1, P11.2
	terms := smallTerms(4, 2)
	var by [4]int
	for _, l := range ordersOfThree() {
		p := closed(t, 3, l...)
		plain := newReading(three(), p)
		for _, s := range terms {
			for _, u := range terms {
				clause := plain.clause(s, u)
				by[clause]++
				if Greater(three(), p, s, u) != (clause > 0) {
					t.Fatalf("%v: Greater(%v, %v): not %v", l, s, u, clause > 0)
				}
			}
		}
	}
	if slices.Min(by[:]) < 500 {
		t.Errorf("a clause was too seldom the first: %v", by)
	}
}

// TestDrawnTerms holds drawn terms that have much in common against the plain reading, under drawn precedences.
func TestDrawnTerms(t *testing.T) { // P11.1
	r := random(1)
	var by [4]int
	for range 40 {
		l := r.order(8, 40)
		p := closed(t, 8, l...)
		plain := newReading(mixed(), p)
		terms := r.pool(t, 30, r.below(4))
		for _, s := range terms {
			for _, u := range terms {
				clause := plain.clause(s, u)
				by[clause]++
				if Greater(mixed(), p, s, u) != (clause > 0) {
					t.Fatalf("%v: Greater(%v, %v): not %v", l, s, u, clause > 0)
				}
			}
		}
	}
	if slices.Min(by[:]) < 500 {
		t.Errorf("a clause was too seldom the first: %v", by)
	}
}

// TestGreatDrawnTerms is TestDrawnTerms of fewer terms, that have many nodes.
func TestGreatDrawnTerms(t *testing.T) { // P11.1
	r := random(2)
	var by [4]int
	for range 60 {
		l := r.order(8, 40)
		p := closed(t, 8, l...)
		plain := newReading(mixed(), p)
		s := r.term(30+r.below(40), r.below(3))
		within := slices.Concat(row(6, 0), s)
		terms := [][]int{s, within, r.term(30, 0), r.changed(t, s, 1), r.changed(t, r.changed(t, s, 1), 0), r.changed(t, within, 1), slices.Concat(row(5, 0), s)}
		for _, x := range terms {
			for _, y := range terms {
				clause := plain.clause(x, y)
				by[clause]++
				if Greater(mixed(), p, x, y) != (clause > 0) {
					t.Fatalf("%v: Greater(%v, %v): not %v", l, x, y, clause > 0)
				}
			}
		}
	}
	if slices.Min(by[:]) < 20 {
		t.Errorf("a clause was too seldom the first: %v", by)
	}
}

// TestVariables: a variable is greater than nothing; a term is greater than one just if it has it, and is not it.
func TestVariables(t *testing.T) { // P11.1
	r := random(3)
	terms := slices.Concat(r.pool(t, 60, 4), [][]int{{-1}, {-2}, {-api.MaxVar}, {3, -api.MaxVar}, {5, -api.MaxVar + 1, 0}})
	for _, p := range [][][2]int{nil, line(upTo(8)...), r.order(8, 40)} {
		for _, s := range terms {
			for _, x := range []int{-1, -2, -3, -4, -5, -api.MaxVar, -api.MaxVar + 1} {
				wants(t, mixed(), closed(t, 8, p...), s, row(x), slices.Contains(s, x) && len(s) > 1)
				wants(t, mixed(), closed(t, 8, p...), row(x), s, false)
			}
		}
	}
}

// TestVariablesOfTheLesserTerm: whatever stands around it, no term is greater than one that has a variable which it has not.
func TestVariablesOfTheLesserTerm(t *testing.T) { // P11.1
	p := closed(t, 3, line(2, 1, 0)...)
	wants(t, three(), p, row(2, -1, -2), row(1, -1), true)
	wants(t, three(), p, row(2, -1, -2), row(1, -3), false)
	wants(t, three(), p, row(2, 2, -1, 0, -2), row(2, -1, -2), true)
	wants(t, three(), p, row(2, 2, -1, 0, -2), row(2, -1, -3), false)
	wants(t, three(), p, row(2, 1, -1, 0), row(2, -1, 2, -2, 0), false)
	wants(t, three(), p, row(2, 1, -1, 0), row(2, -1, 2, -1, 0), true)
	wants(t, three(), p, row(2, 1, -1, 0), row(2, -1, 1, 1, -1), true)
}

// TestByItself: no term is greater than itself, whatever the precedence.
func TestByItself(t *testing.T) { // P11.1, P11.3
	r := random(4)
	for range 300 {
		s := r.term(1+r.below(60), 3)
		neither(t, mixed(), closed(t, 8, r.order(8, 40)...), s, slices.Clone(s))
	}
	for _, s := range [][]int{{0}, {-1}, tower(512, 0), tower(512, -7), comb(255, row(1, 0)), broad(row(0))} {
		neither(t, all(), closed(t, 9, line(upTo(9)...)...), s, s)
	}
}

// TestArityZero: of symbols without arguments the precedence alone tells which is greater.
func TestArityZero(t *testing.T) { // P11.1
	p := closed(t, 8, pair(0, 1), pair(1, 2), pair(2, 3))
	for f := range 3 {
		for g := range 3 {
			wants(t, mixed(), p, row(f), row(g), f < g)
		}
		wants(t, mixed(), closed(t, 8), row(f), row((f+1)%3), false)
		wants(t, mixed(), p, row(f), row(-1), false)
	}
	oneWay(t, mixed(), p, row(0), row(3, 1))             // a above f, and above b
	oneWay(t, mixed(), p, row(0), row(3, 3, 3, 2))       // so of f within f
	oneWay(t, mixed(), p, row(3, 0), row(0))             // but not of what it stands in itself
	neither(t, mixed(), p, row(0), row(3, -1))           // nor of a variable
	neither(t, mixed(), p, row(0), row(4, 1))            // nor of a symbol that it is not above
	neither(t, mixed(), closed(t, 8), row(1), row(3, 0)) // nor without a pair
}

// filled is the term over all of the symbol with n arguments that has zero (f0) in each of them, but in those that are told.
func filled(n int, but map[int][]int) []int {
	t := row(n)
	for i := range n {
		if u, ok := but[i]; ok {
			t = append(t, u...)
		} else {
			t = append(t, 0)
		}
	}
	return t
}

// TestWhereArgumentsPart: of two terms with the same symbol at the root, which part at each of its arguments in turn: the first, those in the middle, the last.
func TestWhereArgumentsPart(t *testing.T) { // P11.1
	none := closed(t, 9)
	for n := 1; n <= api.MaxArity; n++ {
		for k := range n {
			s := filled(n, map[int][]int{k: row(1, 0)})
			oneWay(t, all(), none, s, filled(n, nil))
			oneWay(t, all(), none, filled(n, map[int][]int{k: row(1, -1)}), filled(n, map[int][]int{k: row(-1)}))
			neither(t, all(), none, filled(n, map[int][]int{k: row(-2)}), filled(n, map[int][]int{k: row(-1)}))
			for j := k + 1; j < n; j++ {
				// what stands behind the first two that part does not count, but s must be greater than it
				oneWay(t, all(), none, s, filled(n, map[int][]int{j: row(1, 0)}))
				far := filled(n, map[int][]int{j: row(1, 1, 0)})
				neither(t, all(), none, s, far)
				oneWay(t, all(), closed(t, 9, pair(n, 1)), s, far)
				// those that part first are not told apart, so that others are is no matter
				unlike := filled(n, map[int][]int{k: row(-1), j: row(1, 0)})
				neither(t, all(), none, unlike, filled(n, map[int][]int{k: row(-2)}))
				neither(t, all(), none, unlike, filled(n, nil))
			}
		}
	}
}

// TestMiddleArgument: the order of arguments is from the first to the last, not any other one.
func TestMiddleArgument(t *testing.T) { // P11.1
	p := closed(t, 8, line(7, 0, 1, 2)...)
	oneWay(t, mixed(), p, row(7, 0, 2, 2), row(7, 1, 0, 0))
	oneWay(t, mixed(), p, row(7, 0, 1, 2), row(7, 0, 2, 0))
	oneWay(t, mixed(), p, row(7, 0, 1, 1), row(7, 0, 1, 2))
	oneWay(t, mixed(), p, row(7, -1, 0, -2), row(7, -1, 1, -2))
	oneWay(t, mixed(), p, row(7, -1, 0, -2), row(7, -1, 1, -1))
	neither(t, mixed(), p, row(7, -1, 0, -2), row(7, -2, 1, -1))
	neither(t, mixed(), p, row(7, -1, 0, -2), row(7, -1, 1, -3))
}

// TestSymbolsAlone: a symbol that is above another one, or not, with terms below that would be greater.
func TestSymbolsAlone(t *testing.T) { // P11.1
	p := closed(t, 8, pair(5, 3), pair(3, 4))
	oneWay(t, mixed(), p, row(5, -1, -2), row(3, -2))
	oneWay(t, mixed(), p, row(5, -1, -2), row(4, 3, 4, 3, -2)) // h is above g by f
	oneWay(t, mixed(), p, row(3, -1), row(4, 4, 4, -1))
	neither(t, mixed(), p, row(4, -1), row(6, -1, -1))
	wants(t, mixed(), p, row(3, 0), row(5, 0, 0), false)
	wants(t, mixed(), p, row(6, 0, 0), row(3, 0), false)         // k is above nothing
	wants(t, mixed(), p, row(6, 3, 0, 0), row(3, 0), true)       // but has it
	wants(t, mixed(), p, row(6, 5, 0, 0, 0), row(4, 3, 0), true) // or what is greater
	wants(t, mixed(), p, row(5, 0, 0), row(3, 6, 0, 0), false)   // h is above f, but not greater than what stands there
	wants(t, mixed(), p, row(5, 6, 0, 0, 0), row(3, 6, 0, 0), true)
}

// comb is plus of plus .. on the left, n of them, with end innermost and zero on the right; it stands over three and over all.
func comb(n int, end []int) []int {
	return slices.Concat(slices.Repeat(row(2), n), end, slices.Repeat(row(0), n))
}

// rake is comb the other way round: with end innermost on the right.
func rake(n int, end []int) []int { return append(slices.Repeat(row(2, 0), n), end...) }

// broad is a term over all whose symbols have eight arguments and six, with end as its last argument of all.
func broad(end []int) []int {
	leaf := append(row(6), slices.Repeat(row(0), 6)...)
	twig := append(row(8), slices.Repeat(leaf, 8)...)
	last := slices.Concat(twig[:len(twig)-1], end)
	return slices.Concat(row(8), slices.Repeat(twig, 7), last)
}

func TestDeepTerms(t *testing.T) { // P11.1, R1
	none, over, under := closed(t, 3), closed(t, 3, pair(2, 1)), closed(t, 3, pair(1, 2))
	oneWay(t, three(), none, tower(512, -1), tower(511, -1))
	oneWay(t, three(), none, tower(512, 0), tower(256, 0))
	neither(t, three(), none, tower(512, -1), tower(512, -2))
	neither(t, three(), none, tower(512, -1), tower(511, 0))
	for _, shape := range []func(int, []int) []int{comb, rake} {
		oneWay(t, three(), none, shape(255, row(1, 0)), shape(255, row(0)))
		oneWay(t, three(), none, shape(255, row(1, -1)), shape(255, row(-1)))
		oneWay(t, three(), none, shape(255, row(0)), shape(254, row(0)))
		neither(t, three(), over, shape(255, row(-1)), shape(255, row(-2)))
		neither(t, three(), over, shape(255, row(1, -1)), shape(255, row(-2)))
		oneWay(t, three(), over, shape(255, row(-1)), tower(512, -1))
		wants(t, three(), none, shape(255, row(-1)), tower(512, -1), false)
	}
	oneWay(t, three(), over, comb(255, row(0)), rake(255, row(0)))
	oneWay(t, three(), over, comb(170, row(0)), rake(255, row(1, 0)))
	oneWay(t, three(), under, tower(512, -1), slices.Concat(row(2), tower(255, -1), tower(256, -1)))
}

// TestDeepMixed: towers of two symbols, one of which is above the other one, or not.
func TestDeepMixed(t *testing.T) { // P11.1, R1
	f, g := slices.Repeat(row(3), 255), slices.Repeat(row(4), 256)
	fg, gf := slices.Concat(f, g, row(-1)), slices.Concat(g, f, row(-1))
	both := slices.Concat(slices.Repeat(row(3, 4), 255), row(-1))
	other := slices.Concat(slices.Repeat(row(4, 3), 255), row(-1))
	oneWay(t, mixed(), closed(t, 8, pair(3, 4)), fg, gf)
	oneWay(t, mixed(), closed(t, 8, pair(4, 3)), gf, fg)
	neither(t, mixed(), closed(t, 8), fg, gf)
	oneWay(t, mixed(), closed(t, 8, pair(3, 4)), both, other)
	oneWay(t, mixed(), closed(t, 8, pair(4, 3)), other, both)
	neither(t, mixed(), closed(t, 8), both, other)
}

func TestBroadTerms(t *testing.T) { // P11.1, R1
	none, over := closed(t, 9), closed(t, 9, pair(8, 6), pair(6, 1), pair(1, 0))
	s := broad(row(1, 0))
	if len(s) <= 450 || len(s) > api.MaxNodes {
		t.Fatalf("%d nodes", len(s))
	}
	for _, p := range []int{1, 2, 50} {
		oneWay(t, all(), none, broad(tower(p+1, 0)), broad(tower(p, 0)))
	}
	oneWay(t, all(), over, broad(row(-1)), append(row(6), slices.Repeat(tower(80, -1), 6)...))
	neither(t, all(), none, broad(row(-1)), append(row(6), slices.Repeat(tower(80, -1), 6)...))
	neither(t, all(), over, broad(row(-1)), broad(row(-2)))
	neither(t, all(), none, broad(row(1, -1)), broad(row(0)))
	oneWay(t, all(), over, broad(row(1, -1)), broad(row(0)))
	turned := slices.Concat(row(8, 1, 0), slices.Repeat(row(0), 7))
	oneWay(t, all(), over, turned, append(row(8), slices.Repeat(row(0), 8)...))
	wants(t, all(), over, s, turned, true)
}
