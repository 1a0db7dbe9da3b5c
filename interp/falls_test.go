package interp

import (
	"slices"
	"testing"

	"lodestone/api"
)

func TestExamplesOfFalls(t *testing.T) { // P12.4
	falls(t, three(), usual(), rule(row(2, 0, -1), row(-1)), 2)
	falls(t, three(), usual(), rule(row(2, 1, -1, -2), row(1, 2, -1, -2)), 2)
	falls(t, three(), usual(), rule(row(-1), row(-1)), 1)
	falls(t, three(), usual(), rule(row(0), row(-1)), 0)
	falls(t, three(), but(usual(), 2, sumOf(2, 0)...), rule(row(2, 1, -1, -2), row(1, 2, -1, -2)), 1)
}

// TestNumberedAlike: the variables of both sides are numbered as one row; so a side is not held against what has other variables.
func TestNumberedAlike(t *testing.T) { // P12.4
	add := but(usual(), 2, sumOf(2, 0)...)
	falls(t, three(), add, rule(row(2, -1, -2), row(2, -2, -1)), 1)
	falls(t, three(), usual(), rule(row(2, -1, -2), row(2, -2, -1)), 0)
	falls(t, three(), usual(), rule(row(2, -2, -1), row(2, -2, -1)), 1)
	falls(t, three(), usual(), rule(row(2, -2, -2), row(-2)), 1)
	falls(t, three(), usual(), rule(row(2, -7, -2), row(-2)), 1)
	falls(t, three(), usual(), rule(row(2, -7, -2), row(-7)), 1)
	falls(t, three(), usual(), rule(row(2, -7, -2), row(1, -7)), 0)
	falls(t, three(), usual(), rule(row(2, -7, 1, -2), row(1, -7)), 1)
	falls(t, three(), usual(), rule(row(2, -7, 1, 1, -2), row(1, -7)), 2)
	falls(t, three(), usual(), rule(row(1, -1), row(-1)), 2)
	falls(t, three(), usual(), rule(row(1, -1), row(-2)), 0)
	falls(t, three(), usual(), rule(row(-1), row(-2)), 0)
	falls(t, three(), usual(), rule(row(-1), row(1, -1)), 0)
	falls(t, three(), usual(), rule(row(0), row(1, 0)), 0)
	falls(t, three(), usual(), rule(row(1, 0), row(0)), 2)
	falls(t, three(), usual(), rule(row(0), row(0)), 1)
}

// TestRightAlone: variables that stand in the right side alone come behind those of the left one; no system's rule has them, but this call takes them.
func TestRightAlone(t *testing.T) { // P12.4
	falls(t, three(), second(), rule(row(1, -1), row(2, -5, -1)), 2)
	falls(t, three(), second(), rule(row(1, -1), row(2, -1, -5)), 0)
	falls(t, three(), first(), rule(row(2, -1, -2), row(2, -1, 2, -3, -4)), 1)
	falls(t, three(), first(), rule(row(2, -1, -2), row(2, -3, 2, -1, -4)), 0)
	falls(t, three(), nothing(), rule(row(0), row(2, -1, -2)), 2)
	falls(t, three(), nothing(), rule(row(2, -1, -2), row(2, -3, -4)), 1)
	falls(t, three(), nothing(), rule(row(-3), row(2, -3, -4)), 1)
	falls(t, three(), nothing(), rule(row(2, -1, -2), row(-1)), 0)
}

func TestFallsByCoefficients(t *testing.T) { // P12.4
	sig := []api.Symbol{sym("p", 2), sym("q", 2)}
	r := rule(row(0, -1, -2), row(1, -1, -2))
	for i, x := range []struct {
		p, q []api.Mono
		want int
	}{
		{only(2), only(1), 2},
		{only(1), nil, 2},
		{nil, nil, 1},
		{nil, only(1), 0},
		{only(limbs(64, full)...), only(append([]uint32{full - 1}, limbs(63, full)...)...), 2},
		{only(append([]uint32{full - 1}, limbs(63, full)...)...), only(limbs(64, full)...), 0},
		{monos(mono(2, 1)), monos(mono(1, 1)), 1}, // not greater where x is 0
		{monos(mono(1, 2)), monos(mono(1, 1)), 0}, // x^2 has no x
		{monos(mono(1, 1)), monos(mono(1, 2)), 0}, // nor x x^2
		{monos(mono(5, 1, 1)), sumOf(2, 0), 0},    // nor x y either of both
		{sumOf(2, 1), sumOf(2, 0), 2},             // by the constant
		{sumOf(2, 1), sumOf(1, 0), 2},             // and more
		{sumOf(2, 1), monos(mono(2, 1)), 0},       // a coefficient that is less
		{sumOf(2, 9), monos(mono(1, 1, 1)), 0},    // a monomial that is not there
		{monos(mono(3), mono(2, 1, 1)), monos(mono(3), mono(1, 1, 1)), 1},
		{monos(mono(3), mono(2, 1, 1)), monos(mono(2), mono(2, 1, 1)), 2},
		{monos(mono(3), mono(2, 1, 1)), monos(mono(2), mono(3, 1, 1)), 0},
	} {
		if n, e := Falls(sig, given(x.p, x.q), r); n != x.want || e != api.OK {
			t.Errorf("%d: %d, %v; want %d", i, n, e, x.want)
		}
	}
}

// TestNoRules lays rows that are no terms on either side: the left one's fault is told first, and that of either ahead of what is too big.
func TestNoRules(t *testing.T) { // P12.4, R3
	steep := but(usual(), 1, mono(1, 64))
	for want, rows := range badRows() {
		for _, bad := range rows {
			for _, good := range [][]int{row(0), row(-1), row(2, 1, -1, -2), row(1, 1, -1)} {
				for _, l := range [][]api.Interp{usual(), steep} {
					refusesRule(t, three(), l, rule(bad, good), want)
					refusesRule(t, three(), l, rule(good, bad), want)
				}
				refusesRule(t, three(), usual()[:2], rule(bad, good), api.ErrInterpSymbol)
				refusesRule(t, three(), but(usual(), 2, mono(0)), rule(good, bad), api.ErrInterpForm)
				refusesRule(t, three(), but(usual(), 2, mono(1, 65)), rule(good, bad), api.ErrTooBig)
			}
			for other, more := range badRows() {
				refusesRule(t, three(), usual(), rule(bad, more[0]), want)
				refusesRule(t, three(), usual(), rule(more[len(more)-1], bad), other)
			}
		}
	}
}

// TestSidesTooBig: a side, or what stands in it, that is too big, whatever the other one is.
func TestSidesTooBig(t *testing.T) { // P12.4
	steep := but(second(), 1, mono(1, 8))
	fits, big := row(1, 1, -1), row(1, 1, 1, -1)
	hidden := slices.Concat(row(2), big, row(-1))
	falls(t, three(), steep, rule(fits, fits), 1)
	falls(t, three(), steep, rule(slices.Concat(row(2), fits, row(-1)), row(-1)), 1)
	for _, bad := range [][]int{big, hidden, slices.Concat(row(2), hidden, row(0))} {
		for _, good := range [][]int{row(-1), row(0), row(-5), fits, bad} {
			refusesRule(t, three(), steep, rule(bad, good), api.ErrTooBig)
			refusesRule(t, three(), steep, rule(good, bad), api.ErrTooBig)
		}
	}
	times, plus := but(usual(), 2, productOf(2)...), but(usual(), 2, sumOf(2, 0)...)
	for _, x := range []struct {
		l     []api.Interp
		terms func(n int) []int
		most  int
	}{
		{times, func(n int) []int { return rake(slices.Repeat([][]int{{-4}}, n)...) }, api.MaxDegree},
		{plus, func(n int) []int { return comb(unlike(9, n)...) }, api.MaxMonomials},
		{but(usual(), 1, mono(1, 1), mono(1, 2)), func(n int) []int { return tower(n, -1) }, 7},
		{but(usual(), 1, api.Mono{Coef: []uint32{0, 1}, Exps: []int{1}}), func(n int) []int { return tower(n, -1) }, api.MaxLimbs},
	} {
		falls(t, three(), x.l, rule(x.terms(x.most), x.terms(x.most)), 1)
		refusesRule(t, three(), x.l, rule(x.terms(x.most+1), x.terms(1)), api.ErrTooBig)
		refusesRule(t, three(), x.l, rule(x.terms(1), x.terms(x.most+1)), api.ErrTooBig)
	}
}

// TestVariablesOfBothSides: all of them are numbered in one row, so the right side's may be too many by the left one's.
func TestVariablesOfBothSides(t *testing.T) { // P12.4
	for _, x := range []struct{ left, right int }{{511, 1}, {1, 511}, {256, 256}, {510, 2}} {
		left, right, one := rake(unlike(0, x.left)...), rake(unlike(x.left, x.right)...), row(-9999)
		more := slices.Concat(row(2), one, right)
		falls(t, three(), first(), rule(left, right), 0)
		falls(t, three(), first(), rule(left, left), 1)
		refusesRule(t, three(), first(), rule(left, more), api.ErrTooBig)
		refusesRule(t, three(), first(), rule(slices.Concat(row(2), one, left), right), api.ErrTooBig)
		gives(t, three(), first(), more, raisedTo(0, 1)) // by itself it is not
	}
	falls(t, three(), first(), rule(rake(unlike(0, 512)...), row(-512)), 0)
	falls(t, three(), second(), rule(rake(unlike(0, 512)...), row(-512)), 1)
	refusesRule(t, three(), first(), rule(rake(unlike(0, 512)...), row(-513)), api.ErrTooBig)
	refusesRule(t, three(), nothing(), rule(row(-513), rake(unlike(0, 512)...)), api.ErrTooBig)
}

func TestGreatRules(t *testing.T) { // P12.4, R1
	falls(t, three(), usual(), rule(tower(30000, -1), tower(29999, -1)), 2)
	falls(t, three(), usual(), rule(tower(30000, -1), tower(30000, -1)), 1)
	falls(t, three(), usual(), rule(tower(29999, -1), tower(30000, -1)), 0)
}

// TestDrawnRules holds drawn pairs of terms, with variables in the right one that the left one has not, against the plain reading.
func TestDrawnRules(t *testing.T) { // P12.4
	r := random(5)
	told, free, tooBig := [3]int{}, 0, 0
	for range 20000 {
		l := r.interp(mixed())
		if r.below(2) > 0 {
			l = r.strict(mixed())
		}
		x := rule(r.term(1+r.below(9), 3), r.term(1+r.below(5), 4))
		reads := reading{mixed(), l, numbers(x.L, x.R)}
		left, ok := reads.of(x.L)
		right, fits := reads.of(x.R)
		if !ok || !fits {
			tooBig++
			refusesRule(t, mixed(), l, x, api.ErrTooBig)
			continue
		}
		want := left.falls(right)
		falls(t, mixed(), l, x, want)
		told[want]++
		if want > 0 && len(numbers(x.L)) < len(numbers(x.L, x.R)) {
			free++
		}
	}
	if slices.Min(told[:]) < 1000 || free < 100 || tooBig < 3 {
		t.Errorf("too seldom: %v, %d, %d", told, free, tooBig)
	}
}
