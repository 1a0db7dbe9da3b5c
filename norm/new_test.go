package norm

import (
	"slices"
	"testing"

	"lodestone/api"
	"lodestone/cert"
	"lodestone/system"
)

func TestExamplesOfNew(t *testing.T) { // P16.1
	built(t, sums(), plusAboveS())
	fails(t, sums(), paths(), api.ErrNormRefused)
	fails(t, sums(), make([]api.Node, 65), api.ErrTooBig)
}

// TestAccepted: there is a Norm by a certificate of each kind, and it has just the system.
func TestAccepted(t *testing.T) { // P16.1, P16.3
	for _, c := range allSystems() {
		n := built(t, c.s, c.l)
		for range 2 {
			if s := n.System(); !sameSystem(s, c.s) {
				t.Fatalf("System(): %v, of %v", s, c.s)
			}
		}
	}
}

// TestSystemIsAsItWas: rules keep their order and their variables' numbers, alike ones stay, and symbols that no rule has.
func TestSystemIsAsItWas(t *testing.T) { // P16.3
	sig := append(three(), sym("unused", 8), sym("é'", 0), sym("a_1", 3))
	l := []api.Rule{rule(row(2, 1, -9, -api.MaxVar), row(1, 2, -9, -api.MaxVar)), rule(row(2, 0, -4), row(-4)), rule(row(2, 0, -4), row(-4)), rule(row(2, 0, -1), row(-1))}
	for _, s := range []api.System{{Sig: sig, Rules: l}, {Sig: sig}, {Sig: three()}, {}} {
		if got := built(t, s, plusAboveSOf(s)).System(); !sameSystem(got, s) {
			t.Errorf("System(): %v, of %v", got, s)
		}
	}
	s := api.System{Sig: many(api.MaxSymbols), Rules: slices.Repeat([]api.Rule{rule(row(1, 0), row(0)), rule(tower(api.MaxNodes, -1), tower(api.MaxNodes-1, -1))}, api.MaxRules/2)}
	if got := built(t, s, paths()).System(); !sameSystem(got, s) {
		t.Errorf("System() of the greatest: %v", got)
	}
}

// plusAboveSOf needs no precedence where there is no rule.
func plusAboveSOf(s api.System) []api.Node {
	if len(s.Rules) == 0 {
		return paths()
	}
	return plusAboveS()
}

// TestWrongSystems: a system's error goes ahead of what is wrong with the certificate.
func TestWrongSystems(t *testing.T) { // P16.1, R2
	certificates := [][]api.Node{nil, {}, plusAboveS(), paths(), {{Kind: 9}}, pairs(1), worth(strict()...), worth(nil, x(0, 40), nil), make([]api.Node, 64), make([]api.Node, 65), make([]api.Node, 1000)}
	for _, w := range wrongSystems() {
		if e, _ := system.Check(w.s); e != w.e {
			t.Fatalf("system.Check(%v): %v, want %v", w.s, e, w.e)
		}
		for _, l := range certificates {
			fails(t, w.s, l, w.e)
		}
	}
}

func TestRefused(t *testing.T) { // P16.1
	plus := [2]int{2, 1}
	for _, l := range [][]api.Node{
		nil, {}, {{}}, {{Kind: 9}}, {{Kind: -1}},
		paths(), paths([2]int{1, 2}), paths(plus, [2]int{1, 2}), paths(plus, [2]int{0, 3}), paths(plus, [2]int{-1, 0}),
		{{Kind: api.CertLpo, Prec: [][2]int{plus}, Kids: 1}},
		{{Kind: api.CertLpo, Prec: [][2]int{plus}, Kids: -1}},
		{{Kind: api.ProcLpo, Prec: [][2]int{plus}}},
		append(plusAboveS(), plusAboveS()...),
		worth(), worth(strict()[:2]...), worth(number(1), x(0, 1), sum()), worth(number(1), x(0, 1), x(0, 1)),
		worth(weak()...),
		pairs(0), pairs(1), pairs(1, byPaths()), pairs(0, byPaths(plus)), pairs(2, byPaths(plus), byPaths(plus)), pairs(1, byPaths(plus), byPaths(plus)),
		pairs(1, byWorth(strict()...)), pairs(1, plusAboveS()...),
		make([]api.Node, 2), make([]api.Node, 64),
	} {
		fails(t, sums(), l, api.ErrNormRefused)
	}
	// of another system it is accepted
	fails(t, sums(), groups().l, api.ErrNormRefused)
	fails(t, groups().s, plusAboveS(), api.ErrNormRefused)
	// no certificate says that these end
	fails(t, over(rule(row(0), row(0))), paths(), api.ErrNormRefused)
	fails(t, over(rule(row(2, -1, -2), row(2, -2, -1))), paths(), api.ErrNormRefused)
	fails(t, api.System{}, nil, api.ErrNormRefused)
}

// TestTooBig: of the first promise's three ways, many nodes go ahead of all that is wrong with the nodes.
func TestTooBig(t *testing.T) { // P16.1
	for _, n := range row(65, 66, 1000) {
		fails(t, sums(), make([]api.Node, n), api.ErrTooBig)
		fails(t, sums(), slices.Repeat(plusAboveS(), n), api.ErrTooBig)
		fails(t, api.System{}, make([]api.Node, n), api.ErrTooBig)
	}
	fails(t, sums(), make([]api.Node, 64), api.ErrNormRefused)
	// a polynomial that is too big: that of s within s within s has the degree 512
	great := worth(number(1), []api.Mono{mono(1), mono(1, 1), mono(1, 8)}, sum())
	fails(t, over(rule(row(1, 1, 1, -1), row(-1))), great, api.ErrTooBig)
	built(t, over(rule(row(1, 1, -1), row(-1))), great)
	// more than MaxPairs pairs
	fails(t, manyPairs(api.MaxPairs+1), pairs(1, byPaths([2]int{1, 2}, [2]int{1, 3})), api.ErrTooBig)
	built(t, manyPairs(api.MaxPairs), pairs(1, byPaths([2]int{1, 2}, [2]int{1, 3})))
}

// manyPairs is a right system with n pairs, 2 at least, which fall by f above c and e. Its symbols: s 0, f 1, c 2, e 3, t 4.
func manyPairs(n int) api.System {
	side := func(n int) []int { return append(slices.Repeat(row(2, 1, -1), n), 3) }
	return api.System{
		Sig:   []api.Symbol{sym("s", 1), sym("f", 1), sym("c", 2), sym("e", 0), sym("t", 1)},
		Rules: []api.Rule{rule(row(1, 0, -1), side(n/2)), rule(row(1, 4, -1), side(n-n/2))},
	}
}

// TestJustMaxCertNodes has a certificate of as many nodes as may be, each of them needed.
func TestJustMaxCertNodes(t *testing.T) { // P16.1
	// f(s0(x)) -> f(x) and so on; each node below takes one pair out
	s := api.System{Sig: []api.Symbol{sym("f", 1)}}
	count := api.MaxCertNodes - 1
	l := pairs(1)
	for i := 1; i <= count; i++ {
		s.Sig = append(s.Sig, sym("s"+string(rune('a'+i/26))+string(rune('a'+i%26)), 1))
		s.Rules = append(s.Rules, rule(row(0, i, -1), row(0, -1)))
		polynomials := slices.Repeat([][]api.Mono{x(0, 0)}, 2*(count+1))
		polynomials[i] = x(0, 1)
		node := byWorth(polynomials...)
		node.Kids = min(1, count-i)
		l = append(l, node)
	}
	n := built(t, s, l)
	becomes(t, n, row(0, 63, 1, 7, 63, -5), 0, -5)
	fails(t, s, l[:63], api.ErrNormRefused)
	fails(t, s, append(slices.Clone(l), l[63]), api.ErrTooBig)
}

// TestAsCertSays holds New against the checker: of drawn systems and certificates, right and wrong.
func TestAsCertSays(t *testing.T) { // P16.1
	r := random(1)
	count := map[api.Errno]int{}
	hold := func(s api.System, l []api.Node) {
		want, _ := system.Check(s)
		if v := cert.Check(s, l); want == api.OK && v != api.Accept {
			want = map[api.Verdict]api.Errno{api.TooBig: api.ErrTooBig, api.Refuse: api.ErrNormRefused}[v]
		}
		count[want]++
		if want != api.OK {
			fails(t, s, l, want)
		} else if n := built(t, s, l); !sameSystem(n.System(), s) {
			t.Fatalf("New(%v, %v): of %v", s, l, n.System())
		}
	}
	great := slices.Repeat([][]api.Mono{{mono(1)}}, 5)
	great[1] = []api.Mono{mono(1), mono(1, 40)}
	great[2], great[3], great[4] = sum(), x(0, 2), []api.Mono{mono(2), mono(1, 0, 1), mono(2, 1)}
	for range 300 {
		s, l := r.system()
		other, more := r.system()
		hold(s, l)
		hold(s, more)
		hold(other, l)
		hold(s, worth(great...))
		hold(s, slices.Concat(l, more, make([]api.Node, r.below(100))))
		s.Rules = append(s.Rules, rule(r.term(3, 1), r.term(3, 3)))
		hold(s, l)
		hold(s, make([]api.Node, 65))
	}
	if count[api.OK] < 300 || count[api.ErrNormRefused] < 300 || count[api.ErrTooBig] < 50 || count[api.ErrSystemFree] < 50 || count[api.ErrSystemVar] < 20 {
		t.Errorf("%v", count)
	}
}
