package cert

import (
	"slices"
	"testing"

	"lodestone/api"
)

// onlyRank takes out the pair of ranks(n) whose symbol has that code, and keeps all rules: of the marked symbols it alone counts.
func onlyRank(n, code int) []api.Interp {
	l := make([][]api.Mono, 2*(n+1))
	l[0] = next()
	l[n+1+code] = first()
	return given(l...)
}

// TestPartsInOrder: each kid is held for its own part.
func TestPartsInOrder(t *testing.T) { // P15.1
	const n = 4
	inOrder := nodes(pairsNode(n))
	for f := 1; f <= n; f++ {
		inOrder = append(inOrder, byPoly(0, onlyRank(n, f)))
	}
	accepts(t, ranks(n), inOrder...)
	turned := ranks(n)
	slices.Reverse(turned.Rules)
	refuses(t, turned, inOrder...)
	for i := 1; i <= n; i++ {
		for k := i + 1; k <= n; k++ {
			l := slices.Clone(inOrder)
			l[i], l[k] = l[k], l[i]
			refuses(t, ranks(n), l...)
			l[k] = l[i]
			refuses(t, ranks(n), l...)
			s := ranks(n)
			s.Rules[i-1], s.Rules[k-1] = s.Rules[k-1], s.Rules[i-1]
			refuses(t, s, inOrder...)
		}
	}
	for i := 1; i <= n; i++ {
		less := ranks(n)
		less.Rules = slices.Delete(less.Rules, i-1, i)
		refuses(t, less, inOrder...)
		l := slices.Delete(slices.Clone(inOrder), i, i+1)
		refuses(t, ranks(n), l...)
		l[0].Kids--
		accepts(t, less, l...)
		refuses(t, ranks(n), l...)
	}
}

// TestPartsByLeastPair: the pairs of two parts stand between one another; the part of the least pair comes first.
func TestPartsByLeastPair(t *testing.T) { // P15.1
	// s 0, t 1, f 2, g 3, f# 6, g# 7
	sig := []api.Symbol{sym("s", 1), sym("t", 1), sym("f", 1), sym("g", 1)}
	of := func(f, by int) api.Rule { return rule(row(f, by, -1), row(f, -1)) }
	marked := func(f []api.Mono, g []api.Mono) api.Node {
		return byPoly(0, given(next(), next(), nil, nil, nil, nil, f, g))
	}
	f, g := marked(first(), nil), marked(nil, first())
	s := api.System{Sig: sig, Rules: []api.Rule{of(2, 0), of(3, 0), of(2, 1), of(3, 1)}}
	accepts(t, s, pairsNode(2), f, g)
	refuses(t, s, pairsNode(2), g, f)
	s.Rules = []api.Rule{of(3, 0), of(2, 0), of(2, 1), of(3, 1)}
	accepts(t, s, pairsNode(2), g, f)
	refuses(t, s, pairsNode(2), f, g)
	s.Rules = []api.Rule{of(2, 1), of(3, 0), of(3, 1), of(2, 0)}
	accepts(t, s, pairsNode(2), f, g)
	refuses(t, s, pairsNode(2), g, f)
}

// TestNoParts: pairs that lie on no circle need no node.
func TestNoParts(t *testing.T) { // P15.1
	// f(s(x)) -> g(x), g(x) -> s(h(x)), h(x) -> zero: zero 0, s 1, f 2, g 3, h 4
	s := api.System{Sig: append([]api.Symbol{sym("zero", 0), sym("s", 1)}, named("f", 3, 1)...), Rules: []api.Rule{
		rule(row(2, 1, -1), row(3, -1)), rule(row(3, -1), row(1, 4, -1)), rule(row(4, -1), row(0)),
	}}
	accepts(t, s, pairsNode(0))
	refuses(t, s, pairsNode(1), byLpo(0, [2]int{2, 3}))
	refuses(t, s, pairsNode(2), byLpo(0), byLpo(0))
	// one more, and all three are on a circle
	s.Rules = append(s.Rules, rule(row(4, 1, 1, -1), row(2, -1)))
	refuses(t, s, pairsNode(0))
	l := given(nil, next(), first(), next(), first(), nil, nil, first(), first(), first())
	accepts(t, s, pairsNode(1), byPoly(0, l))
	refuses(t, s, pairsNode(1), byPoly(1, l), byLpo(0))
}

// fork has one part of four pairs. When those are gone by which f goes to g and back, two parts are left: s 0, t 1, f 2, g 3, f# 6, g# 7.
func fork() api.System {
	return api.System{Sig: []api.Symbol{sym("s", 1), sym("t", 1), sym("f", 1), sym("g", 1)}, Rules: []api.Rule{
		rule(row(2, 0, -1), row(3, -1)), rule(row(2, 1, -1), row(2, -1)), rule(row(3, 0, -1), row(2, -1)), rule(row(3, 1, -1), row(3, -1)),
	}}
}

// counting is a node of fork that keeps all its rules: by it those of s and t whose codes are told add something, and those of f# and g# alone count their arguments.
func counting(kids int, codes ...int) api.Node {
	l := make([][]api.Mono, 8)
	l[0], l[1] = first(), first()
	for _, code := range codes {
		l[code] = first()
		if code < 2 {
			l[code] = next()
		}
	}
	return byPoly(kids, given(l...))
}

// TestWhatIsLeftParts: Kids is the number of the parts of what is left, each of which has a node of its own, in order.
func TestWhatIsLeftParts(t *testing.T) { // P15.1
	split := counting(2, 0, 6, 7)
	f, g := counting(0, 0, 1, 6), counting(0, 0, 1, 7)
	accepts(t, fork(), pairsNode(1), split, f, g)
	refuses(t, fork(), pairsNode(1), split, g, f)
	refuses(t, fork(), pairsNode(1), split, f, f)
	refuses(t, fork(), pairsNode(2), f, g)
	accepts(t, fork(), pairsNode(1), counting(0, 0, 1, 6, 7))
	paths := byLpo(0, [2]int{0, 2}, [2]int{0, 3}, [2]int{0, 6}, [2]int{0, 7})
	accepts(t, fork(), pairsNode(1), paths)
	accepts(t, fork(), pairsNode(1), split, paths, paths)
	accepts(t, fork(), pairsNode(1), split, paths, g)
	for _, kids := range row(0, 1, 3) {
		l := nodes(pairsNode(1), split, f, g, paths)[:2+kids]
		l[1].Kids = kids
		refuses(t, fork(), l...)
	}
	// t counts first: f and g go to and fro, and are one part still
	to := counting(1, 1, 6, 7)
	accepts(t, fork(), pairsNode(1), to, counting(0, 0, 6, 7))
	accepts(t, fork(), pairsNode(1), to, paths)
	refuses(t, fork(), pairsNode(1), to, f)
	to.Kids = 2
	refuses(t, fork(), pairsNode(1), to, f, g)
}

// TestOneOfTwoFalls: of the pairs by which f goes to g and back one alone is taken out; the other one is left on no circle, and in no part.
func TestOneOfTwoFalls(t *testing.T) { // P15.1
	s := fork()
	s.Rules[2].L = row(3, 1, -1) // g(t(x)) -> f(x), beside g(t(x)) -> g(x)
	split := counting(2, 0, 6, 7)
	accepts(t, s, pairsNode(1), split, counting(0, 0, 1, 6), counting(0, 0, 1, 7))
	// the second part is the fourth pair: the third one is in none
	refuses(t, s, pairsNode(1), split, counting(0, 0, 1, 7), counting(0, 0, 1, 7))
	refuses(t, s, pairsNode(1), split, counting(0, 0, 1, 6), counting(0, 0, 1, 6))
}

// TestDepthFirst: behind a node stands all that is below it, ahead of the next part's node.
func TestDepthFirst(t *testing.T) { // P15.1
	// f(s(x)) -> f(x), f(t(x)) -> f(x), and so for g: s 0, t 1, f 2, g 3, f# 6, g# 7
	s := fork()
	s.Rules[0].R, s.Rules[2].R = row(2, -1), row(3, -1)
	f1, f2 := counting(1, 0, 6), counting(0, 1, 6)
	g1, g2 := counting(1, 0, 7), counting(0, 1, 7)
	accepts(t, s, pairsNode(2), f1, f2, g1, g2)
	refuses(t, s, pairsNode(2), f1, g1, f2, g2)
	refuses(t, s, pairsNode(2), f1, g1, g2, f2)
	refuses(t, s, pairsNode(2), g1, g2, f1, f2)
	refuses(t, s, pairsNode(2), f1, f2, g1, f2)
	refuses(t, s, pairsNode(2), f1, f2, f1, f2)
	refuses(t, s, pairsNode(2), f1, f1, g1, g2)
	accepts(t, s, pairsNode(2), byLpo(0), g1, g2)
	accepts(t, s, pairsNode(2), f1, f2, byLpo(0))
	refuses(t, s, pairsNode(2), f1, f2, g2)
	refuses(t, s, pairsNode(2), f2, g1, g2)
}

// TestFirstNodeTells: of several nodes that are not accepted the first one in the row says what the verdict is.
func TestFirstNodeTells(t *testing.T) { // P15.1
	s := fork()
	s.Rules[0].R, s.Rules[2].R = row(2, -1), row(3, -1)
	f1, f2 := counting(1, 0, 6), counting(0, 1, 6)
	g1, g2 := counting(1, 0, 7), counting(0, 1, 7)
	good := nodes(pairsNode(2), f1, f2, g1, g2)
	bad := counting(0, 6, 7)
	big := byPoly(0, given(monos(mono(1, 64)), monos(mono(1, 64)), monos(mono(1, 2)), monos(mono(1, 2)), nil, nil, nil, nil))
	faults := func(kids int) []api.Node {
		l := nodes(bad, api.Node{Kind: 9}, pairsNode(0), byPoly(0, nil), byLpo(0, [2]int{1, 1}))
		for i := range l {
			l[i].Kids = kids
		}
		return l
	}
	for i := 1; i < len(good); i++ {
		l := slices.Clone(good)
		l[i] = big
		l[i].Kids = good[i].Kids
		tooBig(t, s, l...)
		for k := 1; k < len(good); k++ {
			for _, x := range faults(good[k].Kids) {
				both := slices.Clone(l)
				both[k] = x
				switch {
				case i < k:
					tooBig(t, s, both...)
				default:
					refuses(t, s, both...)
				}
			}
		}
	}
	// Kids that are not the number of parts, ahead of what stands below
	refuses(t, s, pairsNode(1), big)
	refuses(t, s, pairsNode(3), big, big, big)
	refuses(t, s, pairsNode(2), counting(2, 0, 6), big, big, big)
	tooBig(t, s, pairsNode(2), counting(1, 0, 6), big, big)
	tooBig(t, s, pairsNode(2), f1, f2, big)
}
