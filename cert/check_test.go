package cert

import (
	"math"
	"slices"
	"testing"

	"lodestone/api"
)

func TestExamples(t *testing.T) { // P15.1
	over21 := above([2]int{2, 1})
	accepts(t, sums(), lpoNode(over21...))
	refuses(t, sums(), lpoNode())
	refuses(t, sums(), api.Node{Kind: api.CertLpo, Prec: over21, Kids: 1})
	refuses(t, sums())
	refuses(t, sums(), api.Node{Kind: 9})
	accepts(t, sums(), polyNode(strict()))
	refuses(t, sums(), polyNode(but(strict(), 2, sum()...)))
	accepts(t, sums(), pairsNode(1), byLpo(0, over21...))
	accepts(t, sums(), pairsNode(1), byPoly(0, weak()))
	accepts(t, over(rule(row(1, 0), row(0))), pairsNode(0))
}

// TestNoRules: there is nothing to fall; what a node names has to be right nevertheless.
func TestNoRules(t *testing.T) { // P15.1
	for _, s := range []api.System{over(), {Sig: three(), Rules: []api.Rule{}}} {
		accepts(t, s, lpoNode())
		accepts(t, s, lpoNode([2]int{2, 1}, [2]int{1, 0}))
		refuses(t, s, lpoNode([2]int{2, 1}, [2]int{1, 2}))
		refuses(t, s, lpoNode([2]int{3, 0}))
		accepts(t, s, polyNode(strict()))
		refuses(t, s, polyNode(nil))
		refuses(t, s, polyNode(but(strict(), 1)))
		accepts(t, s, pairsNode(0))
		refuses(t, s, pairsNode(1), byLpo(0))
	}
	accepts(t, api.System{}, lpoNode())
	accepts(t, api.System{}, polyNode(nil))
	accepts(t, api.System{}, pairsNode(0))
	refuses(t, api.System{}, lpoNode([2]int{0, 0}))
	refuses(t, api.System{}, polyNode(given(nil)))
	refuses(t, api.System{})
}

// wrongSystems are not right, each for another reason.
func wrongSystems() []api.System {
	withSig := func(more ...api.Symbol) api.System {
		return api.System{Sig: append(three(), more...), Rules: sums().Rules}
	}
	behind := func(l, r []int) api.System { return over(append(sums().Rules, rule(l, r))...) }
	return []api.System{
		withSig(sym("1", 1)),
		withSig(sym("plus#", 2)),
		withSig(sym("f", 9)),
		withSig(sym("s", 2)),
		withSig(named("f", api.MaxSymbols-2, 0)...),
		over(slices.Repeat(sums().Rules, 33)...),
		behind(nil, row(0)),
		behind(row(2, 0), row(0)),
		behind(row(2, 0, 0), row(3)),
		behind(row(5, 0, 0), row(0)),
		behind(row(2, 0, 0), row(0, 0)),
		behind(tower(api.MaxNodes+1, 0), row(0)),
		behind(row(0), tower(api.MaxNodes+1, 0)),
		behind(row(-1), row(0)),
		behind(row(2, 0, -1), row(-2)),
	}
}

// TestWrongSystem has certificates that would be accepted, if the fault was not there, and some that would be too big.
func TestWrongSystem(t *testing.T) { // P15.1
	for _, s := range wrongSystems() {
		refuses(t, s, lpoNode([2]int{2, 1}))
		refuses(t, s, lpoNode([2]int{2, 1}, [2]int{2, 0}, [2]int{1, 0}))
		refuses(t, s, polyNode(strict()))
		refuses(t, s, polyNode(steep(s.Sig)))
		refuses(t, s, pairsNode(0))
		refuses(t, s, pairsNode(1), byLpo(0, [2]int{2, 1}))
		refuses(t, s, pairsNode(1), byPoly(0, weak()))
		refuses(t, s)
	}
}

// TestTooManyNodes: that is told ahead of whatever else is wrong.
func TestTooManyNodes(t *testing.T) { // P15.1
	for _, n := range row(api.MaxCertNodes+1, api.MaxCertNodes+2, 1000) {
		for _, s := range append(wrongSystems(), sums(), over()) {
			tooBig(t, s, make([]api.Node, n)...)
			tooBig(t, s, append(nodes(pairsNode(n-1)), make([]api.Node, n-1)...)...)
			tooBig(t, s, slices.Repeat(nodes(lpoNode([2]int{2, 1})), n)...)
			tooBig(t, s, append(nodes(pairsNode(-1)), make([]api.Node, n-1)...)...)
		}
	}
	for _, s := range append(wrongSystems(), sums(), over()) {
		refuses(t, s, make([]api.Node, api.MaxCertNodes)...)
		refuses(t, s, append(nodes(pairsNode(api.MaxCertNodes-1)), make([]api.Node, api.MaxCertNodes-1)...)...)
	}
	refuses(t, wrongSystems()[0], chain(api.MaxCertNodes-1)...)
}

// TestMostNodes: as many as there may be, side by side, and within one another.
func TestMostNodes(t *testing.T) { // P15.1
	const n = api.MaxCertNodes - 1
	side := append(nodes(pairsNode(n)), slices.Repeat(nodes(byLpo(0)), n)...)
	accepts(t, ranks(n), side...)
	tooBig(t, ranks(n), append(side, byLpo(0))...)
	refuses(t, ranks(n), side[:n]...)

	within := chain(n)
	accepts(t, nest(n), within...)
	tooBig(t, nest(n), append(within, byLpo(0))...)
	refuses(t, nest(n), within[:n]...)
	within[n] = byPoly(0, onlyNext(n, n-1))
	refuses(t, nest(n), within...)
	within[n] = byLpo(0)
	accepts(t, nest(n), within...)
}

// TestChains: each link of a certificate whose nodes stand within one another has to take a pair out of what is left.
func TestChains(t *testing.T) { // P15.1
	for n := 1; n <= 12; n++ {
		accepts(t, nest(n), chain(n)...)
		for at := 1; at <= n; at++ {
			l := chain(n)
			l[at].Ints = onlyNext(n, at-1) // f, or what was taken out already
			refuses(t, nest(n), l...)
			l = chain(n)
			l[at].Kids = 1 - l[at].Kids
			refuses(t, nest(n), l...)
			l = chain(n)
			l[at] = byLpo(1) // takes all out that is left
			if at < n {
				refuses(t, nest(n), l...)
			}
			l[at].Kids = 0
			accepts(t, nest(n), l[:at+1]...)
		}
	}
}

// TestNoTree: the nodes alone would do.
func TestNoTree(t *testing.T) { // P15.1
	for _, kids := range row(-1, -2, 1, 2, 3, 64, 65, 1<<32, 1<<62, math.MaxInt-1, math.MaxInt, math.MinInt, math.MinInt+1) {
		l := lpoNode([2]int{2, 1})
		l.Kids = kids
		refuses(t, sums(), l)
		l = polyNode(strict())
		l.Kids = kids
		refuses(t, sums(), l)
		refuses(t, over(), pairsNode(kids))
		refuses(t, sums(), pairsNode(1), byLpo(kids, [2]int{2, 1}))
		refuses(t, sums(), pairsNode(1), byPoly(kids, weak()))
		if kids != 1 {
			refuses(t, sums(), pairsNode(kids), byLpo(0, [2]int{2, 1}))
			refuses(t, nest(2), pairsNode(1), byPoly(kids, onlyNext(2, 1)), byLpo(0))
		}
		if kids != 2 {
			refuses(t, ranks(2), pairsNode(kids), byLpo(0), byLpo(0))
		}
	}
	// kids that make up for one another, or whose sum wraps round
	refuses(t, ranks(2), pairsNode(3), byLpo(-1), byLpo(0))
	refuses(t, ranks(2), pairsNode(1), byLpo(1), byLpo(0))
	refuses(t, ranks(2), pairsNode(math.MaxInt), byLpo(math.MaxInt), byLpo(4))
	refuses(t, ranks(2), pairsNode(1<<62), byLpo(1<<62), byLpo(1<<62), byLpo(1<<62))
	refuses(t, sums(), lpoNode([2]int{2, 1}), lpoNode([2]int{2, 1}))
	refuses(t, sums(), polyNode(strict()), polyNode(strict()))
	refuses(t, sums(), pairsNode(1), byLpo(0, [2]int{2, 1}), byLpo(0, [2]int{2, 1}))
	refuses(t, sums(), pairsNode(1))
	refuses(t, over(), pairsNode(0), pairsNode(0))
	refuses(t, over(), nodes()...)
}

// TestNoTreeIsFirst: a row that is no tree is refused ahead of a node that is too big.
func TestNoTreeIsFirst(t *testing.T) { // P15.1
	s := over(rule(row(1, 1, 1, 1, -1), row(-1)))
	big := polyNode(steep(three()))
	tooBig(t, s, big)
	refuses(t, s, big, big)
	for _, kids := range row(-1, 1, 2, 64, math.MaxInt, math.MinInt) {
		big.Kids = kids
		refuses(t, s, big)
	}
	// kids below 0 that make up for others, and so many that their sum wraps round
	big.Kids = 2
	tooBig(t, s, big, lpoNode(), lpoNode())
	refuses(t, s, big, byLpo(-1))
	refuses(t, s, big, byLpo(1), byLpo(-1))
	refuses(t, s, big, byLpo(0), byLpo(2), byLpo(-1))
	big.Kids = math.MaxInt
	refuses(t, s, big, byLpo(math.MaxInt), byLpo(4))
	big.Kids = 1 << 62
	refuses(t, s, big, byLpo(1<<62), byLpo(1<<62), byLpo(1<<62), byLpo(4))
	refuses(t, s, big, byLpo(1<<62), byLpo(1<<62), byLpo(1<<62), byLpo(2), byLpo(3))
	big.Kids = 1
	tooBig(t, s, big, lpoNode())
	refuses(t, s, big, big)
	refuses(t, manyPairs(api.MaxPairs+1), pairsNode(1))
	refuses(t, manyPairs(api.MaxPairs+1), pairsNode(0), pairsNode(0))
}

// TestKinds: one that is none, and one that may not stand there.
func TestKinds(t *testing.T) { // P15.1
	kinds := row(0, 1, 2, 3, 4, 5, 6, 7, 9, -1, -3, 256+1, 256+3, 256+4, 1<<32+1, 1<<32+3, 1<<32+4, math.MaxInt, math.MinInt)
	whole := api.Node{Prec: above([2]int{2, 1}), Ints: strict()}
	for _, kind := range kinds {
		whole.Kind = kind
		want := api.Refuse
		if kind == api.CertLpo || kind == api.CertPoly {
			want = api.Accept
		}
		says(t, sums(), want, whole)
		if kind != api.CertPairs {
			one := whole
			one.Kids = 1
			refuses(t, sums(), one, byLpo(0, [2]int{2, 1}))
		}
	}
	whole.Ints = weak()
	for _, kind := range kinds {
		whole.Kind = kind
		want := api.Refuse
		if kind == api.ProcLpo || kind == api.ProcPoly {
			want = api.Accept
		}
		says(t, sums(), want, pairsNode(1), whole)
		l := append(chain(3)[:3], whole)
		l[3].Ints = onlyNext(3, 3)
		l[3].Prec = nil
		says(t, nest(3), want, l...)
	}
}

// TestOtherFields: those that a kind does not name may be anything.
func TestOtherFields(t *testing.T) { // P15.1
	wrongPrec := above([2]int{1, 1}, [2]int{-1, 1 << 62})
	wrongInts := []api.Interp{{Sym: -7, P: monos(mono(0, 0))}, {Sym: 1 << 62}}
	l := lpoNode([2]int{2, 1})
	l.Ints = wrongInts
	accepts(t, sums(), l)
	l = polyNode(strict())
	l.Prec = wrongPrec
	accepts(t, sums(), l)
	first := pairsNode(1)
	first.Prec, first.Ints = wrongPrec, wrongInts
	second := byLpo(0, [2]int{2, 1})
	second.Ints = wrongInts
	accepts(t, sums(), first, second)
	second = byPoly(0, weak())
	second.Prec = wrongPrec
	accepts(t, sums(), first, second)
}
