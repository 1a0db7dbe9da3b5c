package cert

import (
	"testing"

	"lodestone/api"
)

// TestProcLpo: the document's one pair, and precedences that name marked symbols.
func TestProcLpo(t *testing.T) { // P15.1
	accepts(t, sums(), pairsNode(1), byLpo(0, [2]int{2, 1}))
	accepts(t, sums(), pairsNode(1), byLpo(0, [2]int{2, 1}, [2]int{5, 4}, [2]int{3, 2}, [2]int{0, 5}))
	refuses(t, sums(), pairsNode(1), byLpo(0))
	refuses(t, sums(), pairsNode(1), byLpo(0, [2]int{5, 4}))
	// the pairs plus#(s(x), y) -> s#(x) and s#(s(x)) -> plus#(x, x) fall by where the marked symbols stand
	s := over(rule(row(2, 1, -1, -2), row(1, -1)), rule(row(1, 1, -1), row(2, -1, -1)))
	accepts(t, s, pairsNode(1), byLpo(0, [2]int{1, 2}, [2]int{1, 4}, [2]int{4, 5}))
	accepts(t, s, pairsNode(1), byLpo(0, [2]int{1, 2}, [2]int{1, 5}, [2]int{5, 4}))
	refuses(t, s, pairsNode(1), byLpo(0, [2]int{1, 2}, [2]int{1, 4}, [2]int{5, 4}))
	refuses(t, s, pairsNode(1), byLpo(0, [2]int{1, 2}, [2]int{1, 5}, [2]int{4, 5}))
	refuses(t, s, pairsNode(1), byLpo(0, [2]int{1, 4}, [2]int{4, 5}))
}

func TestProcLpoPrec(t *testing.T) { // P15.1
	good := [2]int{2, 1}
	for _, pair := range [][2]int{{1, 2}, {2, 2}, {5, 5}, {6, 0}, {0, 6}, {-1, 0}, {0, -1}, {1 << 62, 0}, {0, -1 << 63}} {
		refuses(t, sums(), pairsNode(1), byLpo(0, good, pair))
		refuses(t, sums(), pairsNode(1), byLpo(0, pair, good))
	}
	refuses(t, sums(), pairsNode(1), byLpo(0, good, [2]int{1, 5}, [2]int{5, 3}, [2]int{3, 2}))
	// of 64 symbols 128
	s := ranks(api.MaxSymbols - 1)
	l := append(nodes(pairsNode(63)), byLpo(0, [2]int{2*api.MaxSymbols - 1, 0}))
	for len(l) < 64 {
		l = append(l, byLpo(0))
	}
	accepts(t, s, l...)
	l[1] = byLpo(0, [2]int{2 * api.MaxSymbols, 0})
	refuses(t, s, l...)
}

// stay has a rule that falls, and one that is the same row on both sides, whose pair so stays for ever; both pairs are in one part. By vast its first rule is too big.
func stay() api.System {
	return over(rule(row(2, 1, -1, -2), row(2, -1, -2)), rule(row(2, -1, -2), row(2, -1, -2)))
}

func vast() []api.Interp {
	return given(nil, monos(mono(1, api.MaxDegree)), monos(mono(1, 2)), nil, nil, nil)
}

// TestProcLpoStays: rules and pairs that are the same row are no fault. As such a pair never falls, only a second node that is too big can tell that the first one is accepted.
func TestProcLpoStays(t *testing.T) { // P15.1
	big := byPoly(0, vast())
	tooBig(t, stay(), pairsNode(1), byLpo(1), big)
	tooBig(t, stay(), pairsNode(1), big)
	refuses(t, stay(), pairsNode(1), byLpo(0))
	refuses(t, stay(), pairsNode(1), byLpo(2), big, big)
	// with other variables it is not the same row, and does not fall
	for _, r := range [][]int{{2, -2, -1}, {2, -1, -1}, {2, -2, -2}} {
		turned := stay()
		turned.Rules[1].R = r
		refuses(t, turned, pairsNode(1), byLpo(1), big)
	}
	// a rule that falls or rises by the precedence, behind one that stays
	more := stay()
	more.Rules = append(more.Rules, rule(row(1, 0), row(2, 0, 0)))
	tooBig(t, more, pairsNode(1), byLpo(1, [2]int{1, 2}), big)
	refuses(t, more, pairsNode(1), byLpo(1, [2]int{2, 1}), big)
	// none falls
	same := over(rule(row(2, 1, -1, -2), row(2, 1, -1, -2)))
	tooBig(t, same, pairsNode(1), big)
	refuses(t, same, pairsNode(1), byLpo(1), big)
}

// TestProcLpoPairs: a pair that neither falls nor stays, behind one that falls and ahead of one; all rules fall.
func TestProcLpoPairs(t *testing.T) { // P15.1
	// f(t(x)) -> f(x), f(s(x)) -> g(s(x)), g(s(x)) -> f(x): s 0, t 1, f 2, g 3, f# 6, g# 7
	sig := []api.Symbol{sym("s", 1), sym("t", 1), sym("f", 1), sym("g", 1)}
	l := []api.Rule{rule(row(2, 1, -1), row(2, -1)), rule(row(2, 0, -1), row(3, 0, -1)), rule(row(3, 0, -1), row(2, -1))}
	for _, at := range [][]int{{0, 1, 2}, {2, 1, 0}, {1, 0, 2}, {2, 0, 1}} {
		s := api.System{Sig: sig, Rules: []api.Rule{l[at[0]], l[at[1]], l[at[2]]}}
		base := above([2]int{2, 3}, [2]int{0, 2}, [2]int{0, 6})
		accepts(t, s, lpoNode(base[:2]...))
		refuses(t, s, pairsNode(1), byLpo(0, base...)) // f#(s(x)) -> g#(s(x)) does neither
		accepts(t, s, pairsNode(1), byLpo(0, append(base, [2]int{6, 7})...))
		refuses(t, s, pairsNode(1), byLpo(0, append(base, [2]int{7, 6})...))
	}
}

// TestProcPoly: rules and pairs may stay; one pair has to fall.
func TestProcPoly(t *testing.T) { // P15.1
	accepts(t, sums(), pairsNode(1), byPoly(0, weak()))
	refuses(t, sums(), pairsNode(1), byPoly(0, but(weak(), 5)))
	refuses(t, sums(), pairsNode(1), byPoly(1, but(weak(), 5)), byPoly(0, weak()))
	refuses(t, sums(), pairsNode(1), byPoly(0, but(weak(), 5, second()...)))
	refuses(t, sums(), pairsNode(1), byPoly(0, but(weak(), 1, first()...)))
	accepts(t, sums(), pairsNode(1), byPoly(0, but(weak(), 5, sum()...)))
	// both rules fall, or one does
	accepts(t, sums(), pairsNode(1), byPoly(0, append(strict(), weak()[3:]...)))
	accepts(t, sums(), pairsNode(1), byPoly(0, but(weak(), 0, mono(1))))
	// a rule neither falls nor stays: the first one, and the second one
	refuses(t, sums(), pairsNode(1), byPoly(0, but(weak(), 2, mono(1, 1))))
	refuses(t, sums(), pairsNode(1), byPoly(0, but(weak(), 2, mono(1, 0, 1))))
	refuses(t, sums(), pairsNode(1), byPoly(0, but(weak(), 2, mono(1, 0, 1), mono(1, 1, 1))))
}

// TestProcPolyPairs: a pair that neither falls nor stays, behind one that falls and ahead of one; all rules stay.
func TestProcPolyPairs(t *testing.T) { // P15.1
	// f(a(x)) -> f(x), f(b(x)) -> f(a(x)): a 0, b 1, f 2, f# 5
	sig := append(named("a", 2, 1), sym("f", 1))
	down, other := rule(row(2, 0, -1), row(2, -1)), rule(row(2, 1, -1), row(2, 0, -1))
	by := func(a, b []api.Mono) []api.Interp { return given(a, b, nil, nil, nil, first()) }
	for _, rules := range [][]api.Rule{{down, other}, {other, down}} {
		s := api.System{Sig: sig, Rules: rules}
		// the other one's pair rises
		refuses(t, s, pairsNode(1), byPoly(0, by(next(), first())))
		refuses(t, s, pairsNode(1), byPoly(1, by(next(), first())), byLpo(0, [2]int{1, 0}))
		// both fall
		accepts(t, s, pairsNode(1), byPoly(0, by(next(), monos(mono(2), mono(1, 1)))))
		// the other one's stays, and does not follow itself
		accepts(t, s, pairsNode(1), byPoly(0, by(next(), next())))
		refuses(t, s, pairsNode(1), byPoly(1, by(next(), next())), byLpo(0, [2]int{1, 0}))
		// down's stays, and follows itself
		accepts(t, s, pairsNode(1), byPoly(1, by(first(), next())), byLpo(0, [2]int{1, 0}))
		refuses(t, s, pairsNode(1), byPoly(0, by(first(), next())))
		// none falls
		refuses(t, s, pairsNode(1), byPoly(1, by(first(), first())), byLpo(0, [2]int{1, 0}))
	}
}

func TestProcPolyInts(t *testing.T) { // P15.1
	for _, l := range [][]api.Interp{
		nil,
		weak()[:3],
		weak()[3:],
		weak()[:5],
		weak()[1:],
		append(weak(), weak()[4]),
		append(weak(), api.Interp{Sym: 6}),
		append(weak(), api.Interp{Sym: -1}),
		but(weak(), 4, mono(1, 0, 1)),
		but(weak(), 3, mono(1, 1)),
		but(weak(), 5, mono(1, 1), mono(1, 1)),
		but(weak(), 5, mono(0, 1)),
	} {
		refuses(t, sums(), pairsNode(1), byPoly(0, l))
	}
	// not in bounds is not taken
	one := over(rule(row(1, 1, -1), row(1, -1)))
	l := given(nil, next(), nil, nil, first(), nil)
	accepts(t, one, pairsNode(1), byPoly(0, l))
	accepts(t, one, pairsNode(1), byPoly(0, but(l, 5, mono(1, api.MaxDegree))))
	refuses(t, one, pairsNode(1), byPoly(0, but(l, 5, mono(1, api.MaxDegree+1))))
	refuses(t, one, pairsNode(1), byPoly(0, but(l, 4, mono(1, 1), mono(1, api.MaxDegree+1))))
}

// TestProcPolyTooBig: in a rule, and in a pair.
func TestProcPolyTooBig(t *testing.T) { // P15.1
	// f(s(s(x))) -> f(x): zero 0, s 1, f 2; marked 3, 4, 5
	sig := []api.Symbol{sym("zero", 0), sym("s", 1), sym("f", 1)}
	s := api.System{Sig: sig, Rules: []api.Rule{rule(row(2, 1, 1, -1), row(2, -1))}}
	good := given(nil, next(), first(), nil, nil, first())
	accepts(t, s, pairsNode(1), byPoly(0, good))
	tooBig(t, s, pairsNode(1), byPoly(0, but(good, 1, mono(1), mono(1, 1), mono(1, 9))))
	tooBig(t, s, pairsNode(1), byPoly(0, but(but(good, 1, mono(1), mono(1, 1), mono(1, 8)), 5, mono(1, 2))))
	accepts(t, s, pairsNode(1), byPoly(0, but(but(good, 1, mono(1), mono(1, 1), mono(1, 2)), 5, mono(1, 1), mono(1, 2))))
}

// TestOtherPairs: pairs that are not in the part are not looked at.
func TestOtherPairs(t *testing.T) { // P15.1
	// f(s(s(x))) -> f(x), s(zero) -> f(zero): the second one's pair follows nothing; zero 0, s 1, f 2; marked 3, 4, 5
	sig := []api.Symbol{sym("zero", 0), sym("s", 1), sym("f", 1)}
	s := api.System{Sig: sig, Rules: []api.Rule{rule(row(2, 1, 1, -1), row(2, -1)), rule(row(1, 0), row(2, 0))}}
	rises := given(number(1), next(), first(), nil, nil, first())
	accepts(t, s, pairsNode(1), byPoly(0, rises))
	accepts(t, s, pairsNode(1), byLpo(0, [2]int{1, 2}))
	// s(x) -> f(x), and a rule by which f comes to s: it is in the part, too
	s.Rules[1] = rule(row(1, -1), row(2, -1))
	s.Rules = append(s.Rules, rule(row(2, 1, 1, 1, -1), row(1, -1)))
	refuses(t, s, pairsNode(1), byPoly(0, rises))
	accepts(t, s, pairsNode(1), byPoly(0, but(rises, 4, mono(1), mono(1, 1))))
}

// TestProcFirstFault: Ints are looked at first, then rules, then pairs, each in order, then Kids.
func TestProcFirstFault(t *testing.T) { // P15.1
	// f(b(x)) -> f(x), f(a(a(x))) -> f(x), f(c(x)) -> f(b(c(x))): a 0, b 1, c 2, f 3, f# 7
	sig := append(named("a", 3, 1), sym("f", 1))
	down, big, up := rule(row(3, 1, -1), row(3, -1)), rule(row(3, 0, 0, -1), row(3, -1)), rule(row(3, 2, -1), row(3, 1, 2, -1))
	of := func(rules ...api.Rule) api.System { return api.System{Sig: sig, Rules: rules} }
	by := func(a, f, marked []api.Mono) api.Node {
		return byPoly(0, given(a, next(), first(), f, nil, nil, nil, marked))
	}
	// the rule big is too big, the rule up rises
	n := by(monos(mono(1, 64)), first(), first())
	tooBig(t, of(down, big, up), pairsNode(1), n)
	tooBig(t, of(big, up, down), pairsNode(1), n)
	refuses(t, of(down, up, big), pairsNode(1), n)
	refuses(t, of(up, big, down), pairsNode(1), n)
	// the rule big is too big, up's pair alone rises: it comes behind all rules
	n = by(monos(mono(1, 64)), nil, first())
	tooBig(t, of(big, up, down), pairsNode(1), n)
	tooBig(t, of(up, down, big), pairsNode(1), n)
	// big's pair alone is too big, up's pair alone rises
	n = by(monos(mono(1, 8)), nil, monos(mono(1, 2)))
	tooBig(t, of(big, up, down), pairsNode(1), n)
	tooBig(t, of(down, big, up), pairsNode(1), n)
	refuses(t, of(up, big, down), pairsNode(1), n)
	refuses(t, of(down, up, big), pairsNode(1), n)
	// Ints, and the kind, ahead; whether one falls, and Kids, behind
	s := of(down, big)
	tooBig(t, s, pairsNode(1), n)
	n.Ints = n.Ints[:7]
	refuses(t, s, pairsNode(1), n)
	n = by(monos(mono(1, 8)), nil, monos(mono(1, 0)))
	refuses(t, s, pairsNode(1), n)
	n = by(monos(mono(1, 64)), nil, nil)
	tooBig(t, s, pairsNode(1), n)
	n.Kids = 1
	tooBig(t, s, pairsNode(1), n, byLpo(0))
	n.Kids = 2
	tooBig(t, s, pairsNode(1), n, byLpo(0), lpoNode())
	n.Kind, n.Kids = api.CertPoly, 0
	refuses(t, s, pairsNode(1), n)
	n.Kind = api.ProcLpo
	accepts(t, s, pairsNode(1), n)
	n.Kind = api.ProcPoly
	refuses(t, s, pairsNode(2), n, n)
}
