package join

import (
	"slices"

	"lodestone/api"
)

// certified is a system with a certificate that is accepted.
type certified struct {
	s api.System
	l []api.Node
}

// with is a system that has some rules more.
func (c certified) with(more ...api.Rule) certified {
	c.s.Rules = append(slices.Clone(c.s.Rules), more...)
	return c
}

// sums is the document's system: zero, s, plus.
func sums() certified {
	sig := []api.Symbol{sym("zero", 0), sym("s", 1), sym("plus", 2)}
	return certified{api.System{Sig: sig, Rules: []api.Rule{
		rule(row(2, 0, -2), row(-2)),
		rule(row(2, 1, -1, -2), row(1, 2, -1, -2)),
	}}, paths([2]int{2, 1})}
}

// bothWays is plus that goes down either argument.
func bothWays() certified {
	return sums().with(rule(row(2, -1, 0), row(-1)), rule(row(2, -1, 1, -2), row(1, 2, -1, -2)))
}

// letters is the document's f(f(x)) -> g(x): f, g, end.
func letters() certified {
	sig := []api.Symbol{sym("f", 1), sym("g", 1), sym("end", 0)}
	return certified{api.System{Sig: sig, Rules: []api.Rule{rule(row(0, 0, -1), row(1, -1))}}, paths([2]int{0, 1})}
}

// completedLetters has f(g(x)) -> g(f(x)), too.
func completedLetters() certified { return letters().with(rule(row(0, 1, -1), row(1, 0, -1))) }

// forks is the document's a -> b, a -> c: a, b, c.
func forks() certified {
	sig := []api.Symbol{sym("a", 0), sym("b", 0), sym("c", 0)}
	return certified{api.System{Sig: sig, Rules: []api.Rule{rule(row(0), row(1)), rule(row(0), row(2))}}, paths([2]int{0, 1}, [2]int{0, 2})}
}

// doubles is zero, s, p, d, k, a and d(s(x)) -> p(d(x), d(x)): d of n s of zero has a normal form of 3 * 2^n - 1 nodes. d is above p and s, k above d and zero, and a above all.
func doubles() certified {
	sig := []api.Symbol{sym("zero", 0), sym("s", 1), sym("p", 2), sym("d", 1), sym("k", 1), sym("a", 0)}
	l := paths([2]int{3, 2}, [2]int{3, 1}, [2]int{4, 3}, [2]int{4, 0}, [2]int{5, 4})
	return certified{api.System{Sig: sig, Rules: []api.Rule{rule(row(3, 1, -1), row(2, 3, -1, 3, -1))}}, l}
}

// counts is doubles, of whose many leaves nothing is left: d of n s of zero has a path of 3 * 2^n - 2 steps, but no great term on it.
func counts() certified {
	return doubles().with(rule(row(3, 0), row(0)), rule(row(2, 0, 0), row(0)))
}

// quotients is minus and quot, which no path order turns: zero, s, minus, quot.
func quotients() certified {
	x := func(arg int, more ...api.Mono) []api.Mono {
		return append(more, api.Mono{Coef: []uint32{1}, Exps: append(make([]int, arg), 1)})
	}
	one := api.Mono{Coef: []uint32{1}}
	s := api.System{Sig: []api.Symbol{sym("zero", 0), sym("s", 1), sym("minus", 2), sym("quot", 2)}, Rules: []api.Rule{
		rule(row(2, -1, 0), row(-1)),
		rule(row(2, 1, -1, 1, -2), row(2, -1, -2)),
		rule(row(3, 0, 1, -1), row(0)),
		rule(row(3, 1, -1, 1, -2), row(1, 3, 2, -1, -2, 1, -2)),
	}}
	var below api.Node
	below.Kind = api.ProcPoly
	for code, p := range [][]api.Mono{nil, x(0, one), x(0), x(0), nil, nil, x(0), x(0)} {
		below.Ints = append(below.Ints, api.Interp{Sym: code, P: p})
	}
	return certified{s, []api.Node{{Kind: api.CertPairs, Kids: 2}, below, below}}
}

// groups are the ten rules of groups: e, i, m; the first eight of them leave pairs that part.
func groups() certified {
	s := api.System{Sig: []api.Symbol{sym("e", 0), sym("i", 1), sym("m", 2)}, Rules: []api.Rule{
		rule(row(2, 0, -1), row(-1)),
		rule(row(2, -1, 0), row(-1)),
		rule(row(2, 1, -1, -1), row(0)),
		rule(row(2, -1, 1, -1), row(0)),
		rule(row(1, 0), row(0)),
		rule(row(1, 1, -1), row(-1)),
		rule(row(1, 2, -1, -2), row(2, 1, -2, 1, -1)),
		rule(row(2, 2, -1, -2, -3), row(2, -1, 2, -2, -3)),
		rule(row(2, 1, -1, 2, -1, -2), row(-2)),
		rule(row(2, -1, 2, 1, -1, -2), row(-2)),
	}}
	return certified{s, paths([2]int{1, 2}, [2]int{2, 0})}
}

// noRules has a signature alone, and empty not even that.
func noRules() certified {
	c := sums()
	c.s.Rules = nil
	return c
}

func empty() certified { return certified{l: paths()} }

// joinedSystems have none but critical pairs that are joined; some have none at all. Two have a rule twice, with other variables.
func joinedSystems() []certified {
	return []certified{
		empty(), noRules(), sums(), bothWays(), completedLetters(), counts(), quotients(), groups(),
		bothWays().with(rule(row(2, -5, 0), row(-5)), rule(row(2, 0, -9), row(-9))),
		completedLetters().with(rule(row(1, 1, 1, -1), row(-1)), rule(row(0, -1), row(1, 1, -1)), rule(row(1, 1, 1, -7), row(-7))),
	}
}

// partedSystems have critical pairs that are not joined.
func partedSystems() []certified {
	fewer := groups()
	fewer.s.Rules = fewer.s.Rules[:8]
	return []certified{letters(), forks(), fewer, letters().with(rule(row(0, 1, -1), row(-1)))}
}
