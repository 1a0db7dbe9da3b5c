package lpo

import (
	"slices"
	"testing"

	"lodestone/api"
)

// anOrder holds that what is greater among some unlike terms is an order; it answers in how many rows of three each is greater than the next.
func anOrder(t *testing.T, terms [][]int, m [][]bool) int {
	t.Helper()
	rows := 0
	for i := range terms {
		if m[i][i] {
			t.Fatalf("%v is greater than itself", terms[i])
		}
		for j := range terms {
			for k := range terms {
				if !m[i][j] || !m[j][k] {
					continue
				}
				rows++
				if !m[i][k] {
					t.Fatalf("%v > %v > %v", terms[i], terms[j], terms[k])
				}
			}
		}
	}
	return rows
}

func TestAnOrderOfSmallTerms(t *testing.T) { // P11.3
	terms := smallTerms(4, 2)
	rows := 0
	for _, l := range ordersOfThree() {
		rows += anOrder(t, terms, matrix(three(), closed(t, 3, l...), terms))
	}
	if rows < 10000 {
		t.Errorf("only %d rows of three", rows)
	}
}

// TestAnOrderOfDrawnTerms draws terms and precedences, and holds also that no two are greater than one another.
func TestAnOrderOfDrawnTerms(t *testing.T) { // P11.3
	r := random(6)
	rows := 0
	for range 30 {
		l := r.order(8, 40)
		p := closed(t, 8, l...)
		terms := r.pool(t, 30, r.below(4))
		m := matrix(mixed(), p, terms)
		plain := newReading(mixed(), p)
		for i, s := range terms {
			for j, u := range terms {
				if m[i][j] != plain.greater(s, u) || m[i][j] && m[j][i] {
					t.Fatalf("%v: %v and %v", l, s, u)
				}
			}
		}
		rows += anOrder(t, terms, m)
	}
	if rows < 10000 {
		t.Errorf("only %d rows of three", rows)
	}
}

// partsAreLesser holds that a term is greater than each of its proper parts, and none of these greater than it.
func partsAreLesser(t *testing.T, sig []api.Symbol, l [][2]int, s []int) {
	t.Helper()
	p := closed(t, len(sig), l...)
	for at, part := range subs(sig, s) {
		if at > 0 && (!Greater(sig, p, s, part) || Greater(sig, p, part, s)) {
			t.Fatalf("%v: %v and its part at %d", l, s, at)
		}
	}
}

func TestProperParts(t *testing.T) { // P11.3
	r := random(7)
	for range 200 {
		partsAreLesser(t, mixed(), r.order(8, 40), r.term(1+r.below(60), 3))
	}
	for _, l := range [][][2]int{nil, line(upTo(9)...), line(8, 7, 6, 5, 4, 3, 2, 1, 0)} {
		for _, s := range [][]int{tower(128, 0), tower(128, -1), comb(60, row(1, -1)), rake(60, row(1, -1)), broad(row(1, -2))} {
			partsAreLesser(t, all(), l, s)
		}
	}
	whole := tower(512, -1)
	for _, at := range []int{1, 2, 255, 510, 511} {
		oneWay(t, all(), closed(t, 0), whole, whole[at:])
	}
}

// TestKeptByBindsOfSmallTerms goes through all binds of two variables to very small terms.
func TestKeptByBindsOfSmallTerms(t *testing.T) { // P11.4
	terms, to := smallTerms(3, 2), smallTerms(2, 2)
	for _, l := range ordersOfThree() {
		p := closed(t, 3, l...)
		m := matrix(three(), p, terms)
		for _, a := range to {
			for _, b := range to {
				s := []api.Bind{{Var: 0, T: a}, {Var: 1, T: b}}
				for i := range terms {
					for j := range terms {
						if m[i][j] && !Greater(three(), p, applied(t, three(), s, terms[i]), applied(t, three(), s, terms[j])) {
							t.Fatalf("%v: %v > %v, but not with %v", l, terms[i], terms[j], s)
						}
					}
				}
			}
		}
	}
}

// greaterPairs hands out drawn terms of which the first is greater than the second, by the plain reading, under drawn pairs.
func greaterPairs(t *testing.T, seed random, vars int, hold func(l [][2]int, s, u []int)) {
	t.Helper()
	r := seed
	n := 0
	for range 50 {
		l := r.order(8, 40)
		plain := newReading(mixed(), closed(t, 8, l...))
		terms := r.pool(t, 16, vars)
		for _, s := range terms {
			for _, u := range terms {
				if plain.greater(s, u) {
					n++
					hold(l, s, u)
				}
			}
		}
	}
	if n < 1000 {
		t.Errorf("only %d pairs", n)
	}
}

func TestKeptByBinds(t *testing.T) { // P11.4
	r := random(8)
	greaterPairs(t, 9, 3, func(l [][2]int, s, u []int) {
		p := closed(t, 8, l...)
		b := r.binds()
		if x, y := applied(t, mixed(), b, s), applied(t, mixed(), b, u); !Greater(mixed(), p, x, y) || Greater(mixed(), p, y, x) {
			t.Fatalf("%v: %v > %v, but not with %v", l, s, u, b)
		}
	})
}

// TestKeptByWhatStandsAround lays both terms into one place of a drawn term, whichever place it is.
func TestKeptByWhatStandsAround(t *testing.T) { // P11.4
	r := random(10)
	greaterPairs(t, 11, 2, func(l [][2]int, s, u []int) {
		p := closed(t, 8, l...)
		around := r.term(2+r.below(12), 3)
		at := r.below(len(around))
		if x, y := laid(t, mixed(), around, at, s), laid(t, mixed(), around, at, u); !Greater(mixed(), p, x, y) || Greater(mixed(), p, y, x) {
			t.Fatalf("%v: %v > %v, but not at %d of %v", l, s, u, at, around)
		}
	})
}

// TestKeptInEachPlace lays two terms into each place of terms with a symbol of each arity, and of a great one.
func TestKeptInEachPlace(t *testing.T) { // P11.4
	p := closed(t, 9, pair(2, 1))
	s, u := row(2, 1, -1, -2), row(1, 2, -1, -2)
	for n := 1; n <= api.MaxArity; n++ {
		around := append(row(n), slices.Repeat(row(-1), n)...)
		for at := range around {
			oneWay(t, all(), p, laid(t, all(), around, at, s), laid(t, all(), around, at, u))
		}
	}
	for _, at := range []int{0, 1, 254, 255, 256, 300, 508} {
		around := comb(254, row(-3))
		oneWay(t, all(), p, laid(t, all(), around, at, s), laid(t, all(), around, at, u))
	}
}

// TestNotKeptWhereTooBig: what is greater is so no longer, where binds or what stands around make one of the two too big.
func TestNotKeptWhereTooBig(t *testing.T) { // P11.1, P11.4
	p := closed(t, 3, pair(2, 1))
	s, u := row(2, 1, -1, -2), row(1, 2, -1, -2)
	bound := func(v []int, nodes int) []int { // by a term of so many nodes in the place of the variable 0
		at := slices.Index(v, -1)
		return slices.Concat(v[:at], tower(nodes, -1), v[at+1:])
	}
	oneWay(t, three(), p, bound(s, 509), bound(u, 509))
	neither(t, three(), p, bound(s, 510), bound(u, 510))
	around := slices.Repeat(row(1), 508)
	oneWay(t, three(), p, append(slices.Clone(around), s...), append(slices.Clone(around), u...))
	neither(t, three(), p, append(slices.Clone(around), append(row(1), s...)...), append(slices.Clone(around), append(row(1), u...)...))
}

// TestMorePairs: what is greater by some of the pairs is so by all of them.
func TestMorePairs(t *testing.T) { // P11.4
	r := random(12)
	more := 0
	for range 60 {
		l := r.order(8, 40)
		fewer := r.someOf(l)
		terms := r.pool(t, 16, r.below(3))
		m, few := matrix(mixed(), closed(t, 8, l...), terms), matrix(mixed(), closed(t, 8, fewer...), terms)
		for i := range terms {
			for j := range terms {
				if few[i][j] && !m[i][j] {
					t.Fatalf("%v > %v by %v, not by %v", terms[i], terms[j], fewer, l)
				}
				if m[i][j] && !few[i][j] {
					more++
				}
			}
		}
	}
	if more < 100 {
		t.Errorf("only %d more", more)
	}
}

func TestMorePairsOfThree(t *testing.T) { // P11.4
	terms := smallTerms(4, 1)
	orders := ordersOfThree()
	var told [][][]bool
	for _, l := range orders {
		told = append(told, matrix(three(), closed(t, 3, l...), terms))
	}
	for a, few := range orders {
		for b, many := range orders {
			if slices.ContainsFunc(few, func(p [2]int) bool { return !slices.Contains(many, p) }) {
				continue
			}
			for i := range terms {
				for j := range terms {
					if told[a][i][j] && !told[b][i][j] {
						t.Fatalf("%v > %v by %v, not by %v", terms[i], terms[j], few, many)
					}
				}
			}
		}
	}
}

// oneOfTwo holds that of each two unlike terms just one is greater.
func oneOfTwo(t *testing.T, l [][2]int, terms [][]int, m [][]bool) {
	t.Helper()
	for i := range terms {
		for j := range i {
			if m[i][j] == m[j][i] {
				t.Fatalf("%v: %v and %v: %v both ways", l, terms[i], terms[j], m[i][j])
			}
		}
	}
}

// TestAnyTwoSmallTerms goes through all lines of three symbols, and all small terms without variables.
func TestAnyTwoSmallTerms(t *testing.T) { // P11.5
	terms := smallTerms(7, 0)
	for _, down := range [][]int{{0, 1, 2}, {0, 2, 1}, {1, 0, 2}, {1, 2, 0}, {2, 0, 1}, {2, 1, 0}} {
		l := line(down...)
		oneOfTwo(t, l, terms, matrix(three(), closed(t, 3, l...), terms))
	}
}

func TestAnyTwoDrawnTerms(t *testing.T) { // P11.5
	r := random(13)
	for range 40 {
		l := line(shuffled(&r, upTo(8))...)
		p := closed(t, 8, l...)
		terms := r.pool(t, 30, 0)
		m := matrix(mixed(), p, terms)
		oneOfTwo(t, l, terms, m)
		plain := newReading(mixed(), p)
		for i, s := range terms {
			for j, u := range terms {
				if m[i][j] != plain.greater(s, u) {
					t.Fatalf("%v: Greater(%v, %v): %v", l, s, u, m[i][j])
				}
			}
		}
	}
}

// TestAnyTwoGreatTerms: the same of terms of hundreds of nodes, that part deep within.
func TestAnyTwoGreatTerms(t *testing.T) { // P11.5
	r := random(14)
	for range 15 {
		p := closed(t, 8, line(shuffled(&r, upTo(8))...)...)
		s := r.term(300, 0)
		u := r.changed(t, s, 0)
		for len(s) > api.MaxNodes || len(u) > api.MaxNodes || slices.Equal(s, u) {
			s = r.term(200, 0)
			u = r.changed(t, s, 0)
		}
		if Greater(mixed(), p, s, u) == Greater(mixed(), p, u, s) {
			t.Fatalf("%v and %v", s, u)
		}
	}
}

// TestNotAnyTwo: with two symbols that are not told apart, or with variables, there are terms of which none is greater.
func TestNotAnyTwo(t *testing.T) { // P11.5
	neither(t, mixed(), closed(t, 8, line(0, 2, 3, 4, 5, 6, 7)...), row(0), row(1))
	neither(t, mixed(), closed(t, 8, line(upTo(8)...)...), row(5, -1, -2), row(5, -2, -1))
}
