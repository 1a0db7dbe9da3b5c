package cert

import (
	"testing"

	"lodestone/api"
)

// TestLpo: each left side is greater.
func TestLpo(t *testing.T) { // P15.1
	accepts(t, sums(), lpoNode([2]int{2, 1}))
	accepts(t, sums(), lpoNode([2]int{2, 0}, [2]int{0, 1}))
	accepts(t, sums(), lpoNode([2]int{2, 1}, [2]int{2, 1}, [2]int{1, 0}))
	refuses(t, sums(), lpoNode([2]int{1, 2}))
	refuses(t, sums(), lpoNode([2]int{2, 0}))
	// one that falls does not do, nor one that falls behind one that does not
	up, down, same := rule(row(1, -1), row(2, -1, -1)), rule(row(1, 1, -1), row(1, -1)), rule(row(1, -1), row(1, -1))
	accepts(t, over(down), lpoNode())
	accepts(t, over(down, down), lpoNode())
	refuses(t, over(up), lpoNode())
	refuses(t, over(same), lpoNode())
	refuses(t, over(down, up), lpoNode())
	refuses(t, over(up, down), lpoNode())
	refuses(t, over(down, same), lpoNode())
	refuses(t, over(same, down), lpoNode())
	accepts(t, over(down, up), lpoNode([2]int{1, 2}))
	// f(x, y) -> f(y, x) neither falls nor is it the same
	refuses(t, over(rule(row(2, -1, -2), row(2, -2, -1))), lpoNode())
}

// TestLpoPrec: a precedence has to be one of the system's symbols, without a cycle.
func TestLpoPrec(t *testing.T) { // P15.1
	good := [2]int{2, 1}
	for _, pair := range [][2]int{{1, 2}, {2, 2}, {0, 0}, {3, 0}, {0, 3}, {5, 4}, {-1, 0}, {0, -1}, {1 << 62, 0}, {0, -1 << 63}} {
		refuses(t, sums(), lpoNode(good, pair))
		refuses(t, sums(), lpoNode(pair, good))
	}
	refuses(t, sums(), lpoNode(good, [2]int{1, 0}, [2]int{0, 2}))
	all := api.System{Sig: named("f", api.MaxSymbols, 0)}
	for i := range 2 * api.MaxSymbols {
		want := api.Accept
		if i >= api.MaxSymbols {
			want = api.Refuse
		}
		says(t, all, want, lpoNode([2]int{i, (i + 1) % api.MaxSymbols}))
	}
}

// TestPoly: each left side is greater, by an interpretation that rises with each argument.
func TestPoly(t *testing.T) { // P15.1
	accepts(t, sums(), polyNode(strict()))
	l := strict()
	l[0], l[2] = l[2], l[0]
	accepts(t, sums(), polyNode(l))
	accepts(t, sums(), polyNode(but(strict(), 1, mono(2), mono(1, 1))))
	refuses(t, sums(), polyNode(but(strict(), 1, mono(1), mono(1, 1), mono(3, 2))))
	refuses(t, sums(), polyNode(but(strict(), 2, sum()...)))
	refuses(t, sums(), polyNode(but(strict(), 1, mono(1, 1))))
	refuses(t, sums(), polyNode(but(strict(), 0)))
	up, down, same := rule(row(1, -1), row(1, 1, -1)), rule(row(1, 1, -1), row(1, -1)), rule(row(1, -1), row(1, -1))
	accepts(t, over(down), polyNode(strict()))
	accepts(t, over(down, down), polyNode(strict()))
	refuses(t, over(up), polyNode(strict()))
	refuses(t, over(same), polyNode(strict()))
	refuses(t, over(down, up), polyNode(strict()))
	refuses(t, over(up, down), polyNode(strict()))
	refuses(t, over(down, same), polyNode(strict()))
	refuses(t, over(same, down), polyNode(strict()))
}

// TestPolyStrict: all rules fall, but an argument counts for nothing, or nothing alone.
func TestPolyStrict(t *testing.T) { // P15.1
	s := over(rule(row(2, 1, -1, -2), row(1, -1)))
	plus := []api.Mono{mono(1, 0, 1), mono(2, 1), mono(1, 1, 1)}
	accepts(t, s, polyNode(but(strict(), 2, plus...)))
	accepts(t, s, polyNode(but(strict(), 2, plus[:2]...)))
	refuses(t, s, polyNode(but(strict(), 2, plus[1:]...)))
	refuses(t, s, polyNode(but(strict(), 2, plus[1])))
	accepts(t, s, polyNode(but(strict(), 2, mono(1, 0, 2), mono(2, 1))))
	refuses(t, s, polyNode(but(strict(), 2, mono(2, 1), mono(1, 1, 1))))
	// c -> d and f(d) -> f(c) go on for ever
	s = api.System{Sig: append(named("f", 1, 1), named("c", 2, 0)...), Rules: []api.Rule{rule(row(1), row(2)), rule(row(0, 2), row(0, 1))}}
	refuses(t, s, polyNode(given(nil, number(1), nil)))
	refuses(t, s, polyNode(given(first(), number(1), nil)))
}

// TestPolyInts: an interpretation has to be one of the system's symbols alone.
func TestPolyInts(t *testing.T) { // P15.1
	for _, l := range [][]api.Interp{
		nil,
		strict()[:2],
		strict()[1:],
		append(strict(), strict()[2]),
		append(strict(), given(nil, nil, nil, number(1))[3]),
		append(strict(), weak()[3:]...),
		append(strict(), api.Interp{Sym: -1}),
		append(strict()[:2], api.Interp{Sym: -1, P: strict()[2].P}),
		but(strict(), 0, mono(1), mono(1, 1)),
		but(strict(), 1, mono(1, 1), mono(1)),
		but(strict(), 1, mono(1), mono(1, 1), mono(0, 2)),
		but(strict(), 1, mono(1), mono(1, 1), mono(1, 2, 0)),
		but(strict(), 1, mono(1), mono(1, 1), api.Mono{Coef: []uint32{1, 0}, Exps: row(2)}),
		but(strict(), 1, mono(1), mono(1, 1), mono(1, -1)),
	} {
		refuses(t, sums(), polyNode(l))
		refuses(t, over(), polyNode(l))
	}
}

// TestPolyNotInBounds: an interpretation that is itself not in bounds is not taken, and refused so; only what comes of terms is too big.
func TestPolyNotInBounds(t *testing.T) { // P15.1
	most, more := but(strict(), 1, mono(1), mono(1, 1), mono(1, api.MaxDegree)), but(strict(), 1, mono(1), mono(1, 1), mono(1, api.MaxDegree+1))
	accepts(t, over(), polyNode(most))
	refuses(t, over(), polyNode(more))
	one, two := rule(row(1, -1), row(-1)), rule(row(1, 1, -1), row(-1))
	accepts(t, over(one), polyNode(most))
	refuses(t, over(one), polyNode(more))
	tooBig(t, over(two), polyNode(most))
	refuses(t, over(two), polyNode(more))
}

// TestPolyTooBig: on either side, of any rule, in any part of it.
func TestPolyTooBig(t *testing.T) { // P15.1
	l := steep(three())
	down, big := rule(row(1, -1), row(-1)), rule(row(1, 1, 1, -1), row(-1))
	accepts(t, over(down), polyNode(l))
	tooBig(t, over(big), polyNode(l))
	tooBig(t, over(down, down, big), polyNode(l))
	tooBig(t, over(rule(row(1, -1), row(1, 1, 1, -1))), polyNode(l))
	tooBig(t, over(rule(row(2, 0, 1, 1, 1, -1), row(0))), polyNode(l))
	accepts(t, over(rule(row(1, 1, 1, 0), row(1, 1, 0))), polyNode(l))
	// a natural of more than 64 limbs
	far := but(strict(), 1, mono(2), api.Mono{Coef: append(make([]uint32, 40), 1), Exps: row(1)})
	accepts(t, over(rule(row(1, 0), row(0))), polyNode(far))
	tooBig(t, over(rule(row(1, 1, 0), row(0))), polyNode(far))
	// as many monomials as there may be, and one more
	wide := but(strict(), 2, mono(1), mono(1, 0, 1), mono(1, 1))
	accepts(t, over(rule(comb(api.MaxMonomials-1), row(0))), polyNode(wide))
	tooBig(t, over(rule(comb(api.MaxMonomials), row(0))), polyNode(wide))
}

// TestPolyFirstFault: of several faults the first one in the chapter's order tells the verdict.
func TestPolyFirstFault(t *testing.T) { // P15.1
	l := steep(three())
	down, up, big := rule(row(1, -1), row(-1)), rule(row(0), row(1, 0)), rule(row(1, 1, 1, -1), row(-1))
	tooBig(t, over(big, up), polyNode(l))
	refuses(t, over(up, big), polyNode(l))
	tooBig(t, over(down, big, up), polyNode(l))
	refuses(t, over(down, up, big), polyNode(l))
	refuses(t, over(rule(row(1, -1), row(1, -1)), big), polyNode(l))
	// Ints are looked at ahead of the rules
	refuses(t, over(big), polyNode(l[:2]))
	refuses(t, over(big), polyNode(append(l, l[0])))
	refuses(t, over(big), polyNode(but(l, 2, mono(1, 1))))
	refuses(t, over(big), polyNode(but(l, 0, mono(1), mono(1, 1))))
	// Kids are looked at behind them
	one := polyNode(l)
	one.Kids = 1
	tooBig(t, over(big), one, lpoNode())
	tooBig(t, over(big, up), one, api.Node{})
	refuses(t, over(up, big), one, lpoNode())
	refuses(t, over(down), one, lpoNode())
	// the kind is looked at first
	one.Kind = api.ProcPoly
	refuses(t, over(big), one, lpoNode())
	one.Kids = 0
	refuses(t, over(big), one)
}

// TestPairsTooMany: more than MaxPairs are too big, whatever Kids says.
func TestPairsTooMany(t *testing.T) { // P15.1
	accepts(t, manyPairs(api.MaxPairs), pairsNode(1), byLpo(0, [2]int{1, 2}, [2]int{1, 3}))
	tooBig(t, manyPairs(api.MaxPairs+1), pairsNode(1), byLpo(0, [2]int{1, 2}, [2]int{1, 3}))
	tooBig(t, manyPairs(api.MaxPairs+1), pairsNode(0))
	tooBig(t, manyPairs(api.MaxPairs+1), pairsNode(1), api.Node{Kind: 9})
	refuses(t, manyPairs(api.MaxPairs+1), byLpo(0))
	accepts(t, manyPairs(api.MaxPairs+1), lpoNode([2]int{1, 2}, [2]int{1, 3}))
}

// TestLpoLong has sides of as many nodes as there may be.
func TestLpoLong(t *testing.T) { // P15.1
	accepts(t, over(rule(tower(api.MaxNodes, -1), tower(api.MaxNodes-1, -1))), lpoNode())
	refuses(t, over(rule(tower(api.MaxNodes-1, -1), tower(api.MaxNodes, -1))), lpoNode())
	accepts(t, over(rule(tower(api.MaxNodes, -1), tower(api.MaxNodes-1, -1))), polyNode(strict()))
	refuses(t, over(rule(tower(api.MaxNodes-1, -1), tower(api.MaxNodes, -1))), polyNode(strict()))
	refuses(t, over(rule(tower(api.MaxNodes+1, -1), tower(api.MaxNodes-1, -1))), lpoNode())
}
