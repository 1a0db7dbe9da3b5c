package cert

import (
	"slices"
	"strconv"
	"testing"

	"lodestone/api"
)

func sym(name string, arity int) api.Symbol { return api.Symbol{Name: name, Arity: arity} }

func row(codes ...int) []int { return codes }

func rule(l, r []int) api.Rule { return api.Rule{L: l, R: r} }

func above(l ...[2]int) [][2]int { return l }

// mono is a monomial with a small coefficient.
func mono(c uint32, exps ...int) api.Mono { return api.Mono{Coef: []uint32{c}, Exps: exps} }

func monos(l ...api.Mono) []api.Mono { return l }

// given gives the symbols 0, 1, .. these polynomials.
func given(polynomials ...[]api.Mono) []api.Interp {
	var l []api.Interp
	for code, p := range polynomials {
		l = append(l, api.Interp{Sym: code, P: p})
	}
	return l
}

// number, first, second, next and sum are the polynomials n, x0, x1, x0 + 1 and x0 + x1.
func number(n uint32) []api.Mono { return monos(mono(n)) }

func first() []api.Mono { return monos(mono(1, 1)) }

func second() []api.Mono { return monos(mono(1, 0, 1)) }

func next() []api.Mono { return monos(mono(1), mono(1, 1)) }

func sum() []api.Mono { return monos(mono(1, 0, 1), mono(1, 1)) }

// The kinds of nodes, with what they name.

func lpoNode(l ...[2]int) api.Node { return api.Node{Kind: api.CertLpo, Prec: l} }

func polyNode(l []api.Interp) api.Node { return api.Node{Kind: api.CertPoly, Ints: l} }

func pairsNode(kids int) api.Node { return api.Node{Kind: api.CertPairs, Kids: kids} }

func byLpo(kids int, l ...[2]int) api.Node { return api.Node{Kind: api.ProcLpo, Prec: l, Kids: kids} }

func byPoly(kids int, l []api.Interp) api.Node {
	return api.Node{Kind: api.ProcPoly, Ints: l, Kids: kids}
}

func nodes(l ...api.Node) []api.Node { return l }

// three is the document's signature: extended, zero# is 3, s# 4, plus# 5.
func three() []api.Symbol { return []api.Symbol{sym("zero", 0), sym("s", 1), sym("plus", 2)} }

// over is a system with the document's signature.
func over(rules ...api.Rule) api.System { return api.System{Sig: three(), Rules: rules} }

// sums is the document's system.
func sums() api.System {
	return over(rule(row(2, 0, -2), row(-2)), rule(row(2, 1, -1, -2), row(1, 2, -1, -2)))
}

// strict is the document's interpretation of sums: zero 1, s x0 + 1, plus 2 x0 + x1.
func strict() []api.Interp {
	return given(number(1), next(), monos(mono(1, 0, 1), mono(2, 1)))
}

// weak is the document's interpretation of sums' pairs: zero 0, s x0 + 1, plus x0 + x1, zero# 0, s# 0, plus# x0.
func weak() []api.Interp { return given(nil, next(), sum(), nil, nil, first()) }

// but is an interpretation in which one symbol has another polynomial.
func but(l []api.Interp, code int, p ...api.Mono) []api.Interp {
	l = slices.Clone(l)
	l[code] = api.Interp{Sym: code, P: p}
	return l
}

// steep is an interpretation over a signature by which three symbols s within one another are too big; each symbol's polynomial rises with each argument.
func steep(sig []api.Symbol) []api.Interp {
	var l []api.Interp
	for code, s := range sig {
		p := number(1)
		for arg := s.Arity - 1; arg >= 0; arg-- {
			p = append(p, mono(1, append(make([]int, arg), 1)...))
		}
		if code == 1 {
			p = append(p, mono(1, 8))
		}
		l = append(l, api.Interp{Sym: code, P: p})
	}
	return l
}

// named are n symbols with the same arity.
func named(name string, n, arity int) []api.Symbol {
	var sig []api.Symbol
	for i := range n {
		sig = append(sig, sym(name+strconv.Itoa(i), arity))
	}
	return sig
}

// tower is s of s .. of end, with n nodes in all; s has the code 1.
func tower(n, end int) []int { return append(slices.Repeat(row(1), n-1), end) }

// comb is plus of plus of .., with n unlike variables at its ends.
func comb(n int) []int {
	t := slices.Repeat(row(2), n-1)
	for v := range n {
		t = append(t, -1-v)
	}
	return t
}

// ranks has f0(s(x)) -> f0(x) and so on, n such rules: each has one pair, that follows itself alone. s has the code 0.
func ranks(n int) api.System {
	s := api.System{Sig: append([]api.Symbol{sym("s", 1)}, named("f", n, 1)...)}
	for f := 1; f <= n; f++ {
		s.Rules = append(s.Rules, rule(row(f, 0, -1), row(f, -1)))
	}
	return s
}

// nest has f(s0(x)) -> f(x) and so on, n such rules, whose pairs all follow one another; f has the code 0.
func nest(n int) api.System {
	s := api.System{Sig: append([]api.Symbol{sym("f", 1)}, named("s", n, 1)...)}
	for i := 1; i <= n; i++ {
		s.Rules = append(s.Rules, rule(row(0, i, -1), row(0, -1)))
	}
	return s
}

// onlyNext takes one pair out of nest(n): of its symbols that one alone adds something.
func onlyNext(n, code int) []api.Interp {
	var l []api.Interp
	for i := range 2 * (n + 1) {
		p := first()
		if i == code {
			p = next()
		}
		l = append(l, api.Interp{Sym: i, P: p})
	}
	return l
}

// chain is the certificate of nest(n) whose nodes all stand within one another: each takes one pair out.
func chain(n int) []api.Node {
	l := nodes(pairsNode(1))
	for i := 1; i <= n; i++ {
		l = append(l, byPoly(min(1, n-i), onlyNext(n, i)))
	}
	return l
}

// says holds what the checker answers.
func says(t *testing.T, s api.System, want api.Verdict, l ...api.Node) {
	t.Helper()
	if v := Check(s, l); v != want {
		t.Fatalf("Check(%v, %v): %d, want %d", s, l, v, want)
	}
}

func accepts(t *testing.T, s api.System, l ...api.Node) {
	t.Helper()
	says(t, s, api.Accept, l...)
}

func refuses(t *testing.T, s api.System, l ...api.Node) {
	t.Helper()
	says(t, s, api.Refuse, l...)
}

func tooBig(t *testing.T, s api.System, l ...api.Node) {
	t.Helper()
	says(t, s, api.TooBig, l...)
}

// manyPairs is a right system with n pairs, 2 at least: they all follow one another, and fall by f above c and e. Its symbols: s 0, f 1, c 2, e 3, t 4.
func manyPairs(n int) api.System {
	s := api.System{Sig: []api.Symbol{sym("s", 1), sym("f", 1), sym("c", 2), sym("e", 0), sym("t", 1)}}
	side := func(n int) []int {
		return append(slices.Repeat(row(2, 1, -1), n), 3)
	}
	s.Rules = []api.Rule{rule(row(1, 0, -1), side(n/2)), rule(row(1, 4, -1), side(n-n/2))}
	return s
}
