package join

import (
	"testing"

	"lodestone/api"
)

// fff is the document's pair of f(f(x)) -> g(x) with itself.
func fff() api.Critical {
	return api.Critical{At: 1, Spot: 1, Peak: row(0, 0, 0, -1), L: row(0, 1, -1), R: row(1, 0, -1)}
}

// TestExamples holds the chapter's examples.
func TestExamples(t *testing.T) { // P18.1, P18.2
	has(t, sums())
	whole(t, sums(), true)
	has(t, letters(), parts(fff(), row(0, 1, -1), row(1, 0, -1)))
	whole(t, letters(), false)
	has(t, completedLetters(),
		meets(fff(), 1, 0, -1),
		meets(api.Critical{Inner: 1, At: 1, Spot: 1, Peak: row(0, 0, 1, -1), L: row(0, 1, 0, -1), R: row(1, 1, -1)}, 1, 1, -1))
	whole(t, completedLetters(), true)
	has(t, forks(),
		parts(api.Critical{Inner: 1, Peak: row(0), L: row(2), R: row(1)}, row(2), row(1)),
		parts(api.Critical{Outer: 1, Peak: row(0), L: row(1), R: row(2)}, row(1), row(2)))
	whole(t, forks(), false)
}

// TestOneOfSeveral: one pair that parts is enough, be it the first, a middle or the last one.
func TestOneOfSeveral(t *testing.T) { // P18.1, P18.2
	twice := rule(row(1, 1, 1, -1), row(1, -1))
	// g(g(g(x))) -> g(x) overlaps with itself twice; then f(f(x)) -> g(x) stands ahead, between and behind
	ggg := certified{letters().s, letters().l}
	ggg.s.Rules = nil
	joint := func(number, at int) api.Joint {
		pair := api.Critical{Outer: number, Inner: number, At: at, Spot: at}
		pair.Peak = high(at+4, 1, -1)
		pair.L, pair.R = high(at+2, 1, -1), high(at+2, 1, -1)
		end := row(1, -1)
		if at == 1 {
			end = row(1, 1, -1)
		}
		return meets(pair, end...)
	}
	has(t, ggg.with(twice), joint(0, 1), joint(0, 2))
	whole(t, ggg.with(twice), true)
	ff := func(number int) api.Joint {
		pair := fff()
		pair.Outer, pair.Inner = number, number
		return parts(pair, row(0, 1, -1), row(1, 0, -1))
	}
	over := letters().s.Rules[0]
	has(t, ggg.with(over, twice), ff(0), joint(1, 1), joint(1, 2))
	whole(t, ggg.with(over, twice), false)
	has(t, ggg.with(twice, over), joint(0, 1), joint(0, 2), ff(1))
	whole(t, ggg.with(twice, over), false)
	// and f(end) -> end parts from the rule ahead of it
	has(t, ggg.with(twice, over, rule(row(0, 2), row(2))),
		joint(0, 1), joint(0, 2), ff(1),
		parts(api.Critical{Outer: 1, Inner: 2, At: 1, Spot: 1, Peak: row(0, 0, 2), L: row(0, 2), R: row(1, 2)}, row(2), row(1, 2)))
}

// TestVariables: sides that are unlike variables do not meet.
func TestVariables(t *testing.T) { // P18.1
	c := noRules().with(rule(row(2, -1, -2), row(-1)), rule(row(2, -1, -2), row(-2)))
	peak := func(outer, inner int, l, r []int) api.Critical {
		return api.Critical{Outer: outer, Inner: inner, Peak: row(2, r[0], l[0]), L: l, R: r}
	}
	one, two := peak(0, 1, row(-1), row(-2)), peak(1, 0, row(-1), row(-2))
	two.Peak = row(2, -1, -2)
	has(t, c, parts(one, row(-1), row(-2)), parts(two, row(-1), row(-2)))
	whole(t, c, false)
}

// TestSameAtOnce: sides that are the same one from the beginning meet, wherever they lead.
func TestSameAtOnce(t *testing.T) { // P18.1
	c := noRules().with(rule(row(1, -4), row(2, -4, 0)), rule(row(1, -9), row(2, -9, 0)), rule(row(2, -1, 0), row(0)))
	c.l = paths([2]int{1, 2}, [2]int{1, 0}, [2]int{2, 0})
	pair := func(outer, inner int) api.Critical {
		return api.Critical{Outer: outer, Inner: inner, Peak: row(1, -1), L: row(2, -1, 0), R: row(2, -1, 0)}
	}
	has(t, c, meets(pair(0, 1), 0), meets(pair(1, 0), 0))
	whole(t, c, true)
}

// innermost is a, b, c, one, zero, f with some rules: a is above b and f, and from b on each but f above the next one.
func innermost(rules ...api.Rule) certified {
	sig := []api.Symbol{sym("a", 0), sym("b", 0), sym("c", 0), sym("one", 0), sym("zero", 0), sym("f", 1)}
	return certified{api.System{Sig: sig, Rules: rules}, paths([2]int{0, 1}, [2]int{0, 5}, [2]int{1, 2}, [2]int{2, 3}, [2]int{3, 4})}
}

// TestInnermost: where paths part below the sides, too, their ends are those of the innermost ones.
func TestInnermost(t *testing.T) { // P18.1
	joint := func(outer, inner int, l, r []int) api.Critical {
		return api.Critical{Outer: outer, Inner: inner, Peak: row(0), L: l, R: r}
	}
	// a -> f(b), a -> one: of f(b) the b comes first
	below := innermost(rule(row(0), row(5, 1)), rule(row(0), row(3)), rule(row(5, 1), row(4)), rule(row(1), row(2)), rule(row(5, 2), row(3)))
	has(t, below,
		meets(joint(0, 1, row(3), row(5, 1)), 3),
		meets(joint(1, 0, row(5, 1), row(3)), 3),
		parts(api.Critical{Outer: 2, Inner: 3, At: 1, Spot: 1, Peak: row(5, 1), L: row(5, 2), R: row(4)}, row(3), row(4)))
	// a -> f(c), a -> one: of the two rules for f(c) the first one counts
	toOne, toZero := rule(row(5, 2), row(3)), rule(row(5, 2), row(4))
	for i, rules := range [][]api.Rule{{toOne, toZero}, {toZero, toOne}} {
		l := reported(t, innermost(append([]api.Rule{rule(row(0), row(5, 2)), rule(row(0), row(3))}, rules...)...))
		want := []api.Joint{meets(joint(0, 1, row(3), row(5, 2)), 3), meets(joint(1, 0, row(5, 2), row(3)), 3)}
		if i == 1 {
			want = []api.Joint{parts(want[0].Pair, row(3), row(4)), parts(want[1].Pair, row(4), row(3))}
		}
		if len(l) != 4 || !sameJoint(l[0], want[0]) || !sameJoint(l[1], want[1]) || l[2].Joined || l[3].Joined {
			t.Errorf("%d: %v", i, l)
		}
	}
}

// TestKindsOfCertificates: a Norm by dependency pairs, whose rules no path order turns.
func TestKindsOfCertificates(t *testing.T) { // P18.1
	has(t, quotients())
	whole(t, quotients(), true)
	// minus(x, x) -> zero overlaps with both rules of minus
	c := quotients().with(rule(row(2, -1, -1), row(0)))
	l := asPlain(t, c)
	if len(l) != 4 || !Confluent(l) {
		t.Errorf("%v", l)
	}
}
