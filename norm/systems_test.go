package norm

import (
	"slices"

	"lodestone/api"
)

// certified is a system with a certificate that is accepted.
type certified struct {
	s api.System
	l []api.Node
}

// doubles is the document's last example: zero, s, p, d, and d(s(x)) -> p(d(x), d(x)), d above p.
func doubles() certified {
	sig := []api.Symbol{sym("zero", 0), sym("s", 1), sym("p", 2), sym("d", 1)}
	return certified{api.System{Sig: sig, Rules: []api.Rule{rule(row(3, 1, -1), row(2, 3, -1, 3, -1))}}, paths([2]int{3, 2})}
}

// counts is doubles, of whose many leaves nothing is left: d of n s of zero has a path of 3 * 2^n - 2 steps, but no great term on it.
func counts() certified {
	c := doubles()
	c.s.Rules = append(c.s.Rules, rule(row(3, 0), row(0)), rule(row(2, 0, 0), row(0)))
	return c
}

// ackermann is Ackermann's function: zero, s, a.
func ackermann() certified {
	s := api.System{Sig: []api.Symbol{sym("zero", 0), sym("s", 1), sym("a", 2)}, Rules: []api.Rule{
		rule(row(2, 0, -1), row(1, -1)),
		rule(row(2, 1, -1, 0), row(2, -1, 1, 0)),
		rule(row(2, 1, -1, 1, -2), row(2, -1, 2, 1, -1, -2)),
	}}
	return certified{s, paths([2]int{2, 1})}
}

// quotients is minus and quot, which no path order turns: zero, s, minus, quot.
func quotients() certified {
	s := api.System{Sig: []api.Symbol{sym("zero", 0), sym("s", 1), sym("minus", 2), sym("quot", 2)}, Rules: []api.Rule{
		rule(row(2, -1, 0), row(-1)),
		rule(row(2, 1, -1, 1, -2), row(2, -1, -2)),
		rule(row(3, 0, 1, -1), row(0)),
		rule(row(3, 1, -1, 1, -2), row(1, 3, 2, -1, -2, 1, -2)),
	}}
	below := byWorth(nil, x(0, 1), x(0, 0), x(0, 0), nil, nil, x(0, 0), x(0, 0))
	return certified{s, pairs(2, below, below)}
}

// sorting brings each b ahead of each a, one exchange at a time: end, a, b.
func sorting() certified {
	s := api.System{Sig: []api.Symbol{sym("end", 0), sym("a", 1), sym("b", 1)}, Rules: []api.Rule{rule(row(1, 2, -1), row(2, 1, -1))}}
	return certified{s, paths([2]int{1, 2})}
}

// letters is f(f(x)) -> g(x), completed by f(g(x)) -> g(f(x)).
func letters() certified {
	s := api.System{Sig: []api.Symbol{sym("f", 1), sym("g", 1), sym("end", 0)}, Rules: []api.Rule{
		rule(row(0, 0, -1), row(1, -1)),
		rule(row(0, 1, -1), row(1, 0, -1)),
	}}
	return certified{s, paths([2]int{0, 1})}
}

// groups are the ten rules of groups: e, i, m.
func groups() certified {
	s := api.System{Sig: []api.Symbol{sym("e", 0), sym("i", 1), sym("m", 2)}, Rules: []api.Rule{
		rule(row(2, 0, -1), row(-1)),
		rule(row(2, -1, 0), row(-1)),
		rule(row(2, 1, -1, -1), row(0)),
		rule(row(2, -1, 1, -1), row(0)),
		rule(row(2, 1, -1, 2, -1, -2), row(-2)),
		rule(row(2, -1, 2, 1, -1, -2), row(-2)),
		rule(row(1, 0), row(0)),
		rule(row(1, 1, -1), row(-1)),
		rule(row(1, 2, -1, -2), row(2, 1, -2, 1, -1)),
		rule(row(2, 2, -1, -2, -3), row(2, -1, 2, -2, -3)),
	}}
	return certified{s, paths([2]int{1, 2}, [2]int{2, 0})}
}

// bothWays is plus that goes down either argument.
func bothWays() certified {
	s := over(append(sums().Rules, rule(row(2, -1, 0), row(-1)), rule(row(2, -1, 1, -2), row(1, 2, -1, -2)))...)
	return certified{s, plusAboveS()}
}

// smallSystems are over three: with one rule and with several at a place, whose order counts; with certificates of each kind.
func smallSystems() []certified {
	a, b, far := -1, -2, -api.MaxVar
	alone := row(1, 1, -1)
	return []certified{
		{over(), paths()},
		{over(), pairs(0)},
		{sums(), plusAboveS()},
		{sums(), worth(strict()...)},
		{sums(), pairs(1, byPaths([2]int{2, 1}))},
		{sums(), pairs(1, byWorth(weak()...))},
		bothWays(),
		{over(rule(row(1, 0), row(0)), rule(row(2, 0, 0), row(0))), paths()},
		{over(rule(row(1, 1, far), row(1, far))), paths()},
		{over(rule(row(2, a, a), row(a))), paths()},
		{over(rule(row(2, a, 1, a), row(2, a, a)), rule(row(2, 1, b, b), row(0))), paths([2]int{2, 0})},
		{over(rule(row(2, a, 0), row(a)), rule(row(2, 0, a), row(a)), rule(row(2, 1, a, b), row(2, a, 1, b))), paths([2]int{2, 1})},
		{over(rule(row(1, a), row(2, a, a)), rule(row(1, a), row(0))), paths([2]int{1, 2}, [2]int{1, 0})},
		{over(rule(row(1, a), row(0)), rule(row(1, a), row(2, a, a))), paths([2]int{1, 2}, [2]int{1, 0})},
		{over(rule(row(2, 2, a, b, -3), row(2, a, 2, b, -3)), rule(row(2, a, 0), row(a)), rule(row(1, 1, a), row(a))), paths()},
		// which of these two comes first at a place hangs on what stands below it
		{over(rule(row(1, 1, 0), row(0)), rule(row(1, 0), row(2, 0, 0)), rule(row(2, a, b), row(b))), paths([2]int{1, 2})},
		// s(s(x)) -> s(plus(zero, s(x))): no path order turns it
		{over(rule(alone, row(1, 2, 0, 1, -1))), pairs(1, byWorth(nil, x(0, 1), nil, nil, x(0, 0), nil))},
	}
}

// otherSystems have signatures of their own.
func otherSystems() []certified {
	return []certified{doubles(), counts(), ackermann(), quotients(), sorting(), letters(), groups()}
}

func allSystems() []certified { return slices.Concat(smallSystems(), otherSystems()) }

// joinedSystems have none but critical pairs that are seen to be joined: most have none at all, of groups it is well known.
func joinedSystems() []certified {
	return []certified{
		{sums(), plusAboveS()},
		bothWays(),
		{over(rule(row(2, -1, -1), row(-1))), paths()},
		{over(rule(row(1, 1, -1), row(-1))), paths()},
		doubles(), counts(), ackermann(), quotients(), sorting(), letters(), groups(),
	}
}

// wrongSystem is a system that is not right, with what system.Check says of it.
type wrongSystem struct {
	s api.System
	e api.Errno
}

// wrongSystems have one fault each.
func wrongSystems() []wrongSystem {
	withSig := func(more ...api.Symbol) api.System {
		return api.System{Sig: append(three(), more...), Rules: sums().Rules}
	}
	behind := func(l, r []int) api.System { return over(append(sums().Rules, rule(l, r))...) }
	return []wrongSystem{
		{withSig(sym("1", 1)), api.ErrSigName},
		{withSig(sym("f#", 1)), api.ErrSigName},
		{withSig(sym("f", 9)), api.ErrSigArity},
		{withSig(sym("f", -1)), api.ErrSigArity},
		{withSig(sym("s", 2)), api.ErrSigTwice},
		{withSig(many(api.MaxSymbols - 2)...), api.ErrSigMany},
		{withSig(many(2 * api.MaxSymbols)...), api.ErrSigMany},
		{over(slices.Repeat(sums().Rules, 33)...), api.ErrSystemMany},
		{behind(nil, row(0)), api.ErrTermShort},
		{behind(row(2, 0), row(0)), api.ErrTermShort},
		{behind(row(0), row(3)), api.ErrTermCode},
		{behind(row(0, 0), row(0)), api.ErrTermMore},
		{behind(tower(api.MaxNodes+1, 0), row(0)), api.ErrTooBig},
		{behind(row(1, 0), tower(api.MaxNodes+1, 0)), api.ErrTooBig},
		{behind(row(-1), row(0)), api.ErrSystemVar},
		{behind(row(1, -1), row(-2)), api.ErrSystemFree},
	}
}
