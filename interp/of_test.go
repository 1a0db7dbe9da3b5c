package interp

import (
	"slices"
	"testing"

	"lodestone/api"
)

func TestExamplesOfOf(t *testing.T) { // P12.3
	gives(t, three(), usual(), row(2, 1, -7, -3), mono(2), mono(1, 0, 1), mono(2, 1))
	gives(t, three(), usual(), row(2, 0, 0), mono(3))
	steep := but(usual(), 1, mono(1, 8))
	gives(t, three(), steep, row(1, 1, -1), mono(1, 64))
	refuses(t, three(), steep, row(1, 1, 1, -1), api.ErrTooBig)
}

func TestSmallTerms(t *testing.T) { // P12.3
	gives(t, three(), usual(), row(0), mono(1))
	gives(t, three(), usual(), row(1, 0), mono(2))
	gives(t, three(), usual(), row(1, -5), mono(1), mono(1, 1))
	gives(t, three(), usual(), row(2, -1, -1), mono(3, 1))
	gives(t, three(), usual(), row(2, -1, -2), mono(1, 0, 1), mono(2, 1))
	gives(t, three(), usual(), row(2, -2, -1), mono(1, 0, 1), mono(2, 1))
	gives(t, three(), usual(), row(2, 2, -3, -2, -3), mono(2, 0, 1), mono(5, 1))
	gives(t, three(), but(usual(), 0), row(0))
	gives(t, three(), but(usual(), 1), row(1, -1))
	gives(t, three(), but(usual(), 2, mono(3, 1, 1)), row(2, -9, 1, -4), mono(3, 1), mono(3, 1, 1))
}

func TestVariableAlone(t *testing.T) { // P12.3
	for _, code := range []int{-1, -2, -513, -api.MaxVar} {
		gives(t, three(), usual(), row(code), mono(1, 1))
		gives(t, nil, nil, row(code), mono(1, 1))
	}
	refuses(t, three(), usual(), row(-api.MaxVar-1), api.ErrTermCode)
}

func TestNoTerms(t *testing.T) { // P12.3, R3
	for want, rows := range badRows() {
		for _, u := range rows {
			refuses(t, three(), usual(), u, want)
			refuses(t, three(), but(usual(), 1, mono(1, 64)), u, want) // what stands ahead of the fault would be too big
			refuses(t, three(), usual()[:2], u, api.ErrInterpSymbol)
			refuses(t, three(), but(usual(), 2, mono(0)), u, api.ErrInterpForm)
			refuses(t, three(), but(usual(), 2, mono(1, 65)), u, api.ErrTooBig)
		}
	}
}

// TestAllArities has a symbol of each arity with its arguments told apart by their coefficients.
func TestAllArities(t *testing.T) { // P12.3
	for n := range api.MaxArity + 1 {
		p := sumOf(n, 9)
		for i := range p[1:] {
			p[1+i].Coef = []uint32{uint32(n - i)} // the variable v has v + 1
		}
		l := but(sums(all()), n, p...)
		gives(t, all(), l, append(row(n), slices.Concat(unlike(0, n)...)...), p...)
		turned := slices.Concat(unlike(0, n)...)
		slices.Reverse(turned)
		gives(t, all(), l, append(row(n), turned...), p...)
		number := uint32(9 + n*(n+1)/2)
		gives(t, all(), l, append(row(n), slices.Repeat(row(0), n)...), mono(number))
		product := but(sums(all()), n, productOf(n)...)
		gives(t, all(), product, append(row(n), slices.Concat(unlike(3, n)...)...), productOf(n)...)
	}
}

// TestManyNodes: as terms may have any number of nodes, so may the one whose polynomial is asked for.
func TestManyNodes(t *testing.T) { // P12.3, R1
	for _, n := range []int{511, 512, 513, 5000, 100000} {
		gives(t, three(), usual(), tower(n, -3), mono(uint32(n-1)), mono(1, 1))
		gives(t, three(), but(usual(), 2, sumOf(2, 0)...), rake(slices.Repeat([][]int{{-8}}, n)...), mono(uint32(n), 1))
		gives(t, three(), but(usual(), 2, sumOf(2, 0)...), comb(slices.Repeat([][]int{{-8}}, n)...), mono(uint32(n), 1))
	}
}

func TestDegree(t *testing.T) { // P12.3
	times := but(usual(), 2, productOf(2)...)
	for _, shape := range []func(...[]int) []int{rake, comb} {
		for _, n := range []int{1, 2, 63, 64} {
			gives(t, three(), times, shape(slices.Repeat([][]int{{-2}}, n)...), mono(1, n))
		}
		refuses(t, three(), times, shape(slices.Repeat([][]int{{-2}}, 65)...), api.ErrTooBig)
		refuses(t, three(), times, shape(slices.Repeat([][]int{{-2}}, 600)...), api.ErrTooBig)
		// of two variables each may have as much
		both := slices.Repeat([][]int{{-2}, {-1}}, 64)
		gives(t, three(), times, shape(both...), mono(1, 64, 64))
		refuses(t, three(), times, shape(append(both, row(-1))...), api.ErrTooBig)
		refuses(t, three(), times, shape(append(both, row(-2))...), api.ErrTooBig)
		gives(t, three(), times, shape(append(both, row(-3))...), mono(1, 64, 64, 1))
	}
	gives(t, three(), but(usual(), 1, mono(1, 64)), row(1, -1), mono(1, 64))
	refuses(t, three(), but(usual(), 1, mono(1, 64)), row(1, 1, -1), api.ErrTooBig)
	gives(t, three(), but(usual(), 1, mono(1, 64)), row(1, 1, 1, 0), mono(1))
}

func TestHowManyMonomials(t *testing.T) { // P12.3
	add := but(usual(), 2, sumOf(2, 0)...)
	for _, shape := range []func(...[]int) []int{rake, comb} {
		for _, n := range []int{1, 2, 255, 256} {
			gives(t, three(), add, shape(unlike(40, n)...), sumOf(n, 0)...)
		}
		gives(t, three(), add, shape(append(unlike(0, 255), row(0))...), sumOf(255, 1)...)
		refuses(t, three(), add, shape(append(unlike(0, 256), row(0))...), api.ErrTooBig)
		refuses(t, three(), add, shape(unlike(40, 257)...), api.ErrTooBig)
		refuses(t, three(), add, shape(unlike(40, 512)...), api.ErrTooBig)
	}
	// f(x) g(y), of 16 monomials each, and of 16 and 17
	sig := []api.Symbol{sym("zero", 0), sym("f", 1), sym("times", 2), sym("g", 1)}
	product := given(only(1), powers(16), productOf(2), powers(16))
	p, e := Of(sig, product, row(2, 1, -1, 3, -2))
	if e != api.OK || len(p) != 256 {
		t.Errorf("%d monomials, %v", len(p), e)
	}
	product[3].P = powers(17)
	refuses(t, sig, product, row(2, 1, -1, 3, -2), api.ErrTooBig)
}

func TestLimbs(t *testing.T) { // P12.3
	most := but(usual(), 0, only(limbs(64, full)...)...)
	gives(t, three(), most, row(0), only(limbs(64, full)...)...)
	refuses(t, three(), most, row(1, 0), api.ErrTooBig)
	refuses(t, three(), most, row(2, 0, 0), api.ErrTooBig)
	gives(t, three(), but(most, 1, mono(1, 1)), row(1, 1, 1, 0), only(limbs(64, full)...)...)
	less := but(usual(), 0, only(append([]uint32{full - 1}, limbs(63, full)...)...)...)
	gives(t, three(), less, row(1, 0), only(limbs(64, full)...)...)
	refuses(t, three(), less, row(1, 1, 0), api.ErrTooBig)
	// 2^(32 n) x, laid into itself
	for n := 1; n <= 63; n++ {
		steep := but(usual(), 1, api.Mono{Coef: append(limbs(n, 0), 1), Exps: []int{1}})
		nodes := 63/n + 1
		gives(t, three(), steep, tower(nodes, -1), api.Mono{Coef: append(limbs(63/n*n, 0), 1), Exps: []int{1}})
		refuses(t, three(), steep, tower(nodes+1, -1), api.ErrTooBig)
	}
}

// first is an interpretation of three in which plus is worth its first argument alone, second its second one, nothing neither.
func first() []api.Interp   { return but(usual(), 2, mono(1, 1)) }
func second() []api.Interp  { return but(usual(), 2, mono(1, 0, 1)) }
func nothing() []api.Interp { return but(usual(), 2) }

// TestHowManyVariables: a variable whose number is MaxNodes or more has too many exponents, be it worth anything in the end or not.
func TestHowManyVariables(t *testing.T) { // P12.3
	for _, shape := range []func(...[]int) []int{rake, comb} {
		for _, n := range []int{1, 2, 257, 511, 512} {
			gives(t, three(), first(), shape(unlike(7, n)...), raisedTo(0, 1))
			gives(t, three(), second(), shape(unlike(7, n)...), raisedTo(n-1, 1))
			if n > 1 {
				gives(t, three(), nothing(), shape(unlike(7, n)...))
			}
		}
		for _, n := range []int{513, 600, 5000} {
			refuses(t, three(), first(), shape(unlike(7, n)...), api.ErrTooBig)
			refuses(t, three(), second(), shape(unlike(7, n)...), api.ErrTooBig)
			refuses(t, three(), nothing(), shape(unlike(7, n)...), api.ErrTooBig)
			again := slices.Repeat(unlike(7, 512), 2)
			gives(t, three(), first(), shape(again...), raisedTo(0, 1))
			gives(t, three(), second(), shape(again...), raisedTo(511, 1))
		}
	}
}

// TestPartsTooBig: what stands in a term counts, even where nothing of it is left in the term's own polynomial.
func TestPartsTooBig(t *testing.T) { // P12.3
	sig := []api.Symbol{sym("zero", 0), sym("s", 1), sym("plus", 2), sym("nil", 0), sym("cut", 1), sym("times", 2)}
	l := given(only(1), monos(mono(1, 8)), monos(mono(1, 0, 1)), nil, only(5), productOf(2))
	fits, big := row(1, 1, -1), row(1, 1, 1, -1)
	refuses(t, sig, l, big, api.ErrTooBig)
	for _, x := range []struct {
		before, behind []int
		want           []api.Mono
	}{
		{row(2), row(0), only(1)},       // plus is worth its second argument
		{row(4), nil, only(5)},          // cut is worth 5
		{row(5), row(3), nil},           // times 0
		{row(5, 3), nil, nil},           // 0 times
		{row(4, 4, 4), nil, only(5)},    // further up
		{row(2, 4), row(0), only(1)},    // in another one that is cut
		{row(2, 0, 2), row(0), only(1)}, // not the first one
	} {
		gives(t, sig, l, slices.Concat(x.before, fits, x.behind), x.want...)
		gives(t, sig, l, slices.Concat(x.before, row(-9), x.behind), x.want...)
		refuses(t, sig, l, slices.Concat(x.before, big, x.behind), api.ErrTooBig)
	}
	gives(t, sig, l, row(1, 1, 1, 3))             // 0^512
	gives(t, sig, l, row(1, 1, 1, 0), only(1)...) // 1^512
	gives(t, sig, l, row(5, 3, 5, 1, 1, -1, 1, 1, -2))
	refuses(t, sig, l, row(5, 3, 5, 1, 1, -1, 1, 1, -1), api.ErrTooBig)
}

// TestDrawnTerms holds drawn terms under drawn interpretations against the plain reading.
func TestDrawnTerms(t *testing.T) { // P12.3
	r := random(4)
	told := map[bool]int{}
	for range 3000 {
		l := r.interp(mixed())
		if r.below(2) > 0 {
			l = r.strict(mixed())
		}
		u := r.term(1+r.below(25), 4)
		f, ok := reading{mixed(), l, numbers(u)}.of(u)
		told[ok]++
		if !ok {
			refuses(t, mixed(), l, u, api.ErrTooBig)
			continue
		}
		p, _ := f.row()
		gives(t, mixed(), l, u, p...)
	}
	if told[true] < 1000 || told[false] < 20 {
		t.Errorf("too seldom: %v", told)
	}
}
