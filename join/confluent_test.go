package join

import (
	"slices"
	"testing"

	"lodestone/api"
	"lodestone/overlap"
)

// confluent holds what Confluent says of a list.
func confluent(t *testing.T, want bool, l ...api.Joint) {
	t.Helper()
	if Confluent(l) != want {
		t.Fatalf("Confluent(%v) is not %v", l, want)
	}
}

// TestNone: of none all are joined.
func TestNone(t *testing.T) { // P18.2, P18.5
	confluent(t, true)
	confluent(t, true, []api.Joint{}...)
	confluent(t, true, make([]api.Joint, 9)[:0]...)
}

// TestOneApart: one that is not joined is enough, wherever it stands.
func TestOneApart(t *testing.T) { // P18.2
	for _, n := range []int{1, 2, 3, 10, api.MaxCriticals, api.MaxCriticals + 1} {
		l := slices.Repeat([]api.Joint{meets(fff(), 0)}, n)
		confluent(t, true, l...)
		for at := range n {
			l[at].Joined = false
			if at < 10 || at > n-10 {
				confluent(t, false, l...)
			}
			l[at].Joined = true
		}
		for i := range l {
			l[i].Joined = i == n/2 && n > 1
		}
		confluent(t, false, l...)
	}
}

// TestAnyJoints: whether they are joined is what they say, whatever else stands in them.
func TestAnyJoints(t *testing.T) { // P18.2
	joined, apart := meets(fff(), 0), parts(fff(), row(0), row(0))
	wild := api.Critical{Outer: -1, Inner: 99, At: -5, Spot: 1 << 40, Peak: row(-1 << 40), L: row(7), Code: 9}
	confluent(t, true, joined, api.Joint{Joined: true}, joined)
	confluent(t, true, api.Joint{Pair: wild, Left: row(1), Right: row(-1, 1<<40), Joined: true, Code: api.ErrTooBig})
	confluent(t, true, api.Joint{Joined: true, Code: -3})
	confluent(t, false, api.Joint{})
	confluent(t, false, joined, apart)
	confluent(t, false, apart, joined)
	confluent(t, false, api.Joint{Pair: wild, Left: row(1), Right: row(1)}, joined)
	confluent(t, false, tooBig(fff()))
	confluent(t, false, joined, tooBig(fff()), joined)
}

// constructors draws a system whose rules have a root each, s, f, c or g, which stands nowhere else in left sides, so that it has no critical pairs.
func (r *random) constructors() certified {
	for {
		c := certified{s: api.System{Sig: mixed()}, l: paths(r.above(len(mixed()))...)}
		for code := 2; code < len(mixed()); code++ {
			left := row(code)
			for arg := range mixed()[code].Arity {
				left = append(left, row(-1-arg, 0, 1)[r.below(3)])
			}
			if more := c.turned(rule(left, r.term(1+r.below(6), 2))); r.below(3) > 0 && isOf(more, left) {
				c = more
			}
		}
		if len(c.s.Rules) > 0 {
			return c
		}
	}
}

// isOf tells whether a system's last rule has this left side.
func isOf(c certified, left []int) bool {
	n := len(c.s.Rules)
	return n > 0 && slices.Equal(c.s.Rules[n-1].L, left)
}

// TestNothingToJoin: where there are no critical pairs, there is no joint, and all are joined.
func TestNothingToJoin(t *testing.T) { // P18.5
	for _, c := range []certified{empty(), noRules(), sums(), quotients(), counts(), doubles()} {
		has(t, c)
		whole(t, c, true)
	}
	r := random(2)
	several := 0
	for range 400 {
		c := r.constructors()
		if len(c.s.Rules) > 1 {
			several++
		}
		has(t, c)
		whole(t, c, true)
	}
	if several < 50 {
		t.Errorf("only %d have several rules", several)
	}
}

// TestARuleLess: one rule for another is taken away until no pair is left; then all are joined.
func TestARuleLess(t *testing.T) { // P18.5
	held := 0
	eachDrawn(3, 80, func(r *random, c certified) {
		for {
			pairs, _ := overlap.All(c.s)
			if len(pairs) == 0 {
				break
			}
			c.s.Rules = slices.Delete(slices.Clone(c.s.Rules), pairs[0].Inner, pairs[0].Inner+1)
			held++
		}
		has(t, c)
		whole(t, c, true)
	})
	if held < 60 {
		t.Errorf("only %d rules", held)
	}
}
