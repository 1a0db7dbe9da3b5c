package join

import (
	"slices"
	"strconv"
	"testing"

	"lodestone/api"
)

// towers is code of code .. of x -> x, with n of them.
func towers(n, code int) api.Rule { return rule(append(times(n, code), -1), row(-1)) }

// singles has so many symbols of one argument, and a rule for each of the first ones, of so many of the symbol.
func singles(n int, most ...int) certified {
	c := certified{l: paths()}
	for i := range n {
		c.s.Sig = append(c.s.Sig, sym("f"+strconv.Itoa(i), 1))
	}
	for code, n := range most {
		c.s.Rules = append(c.s.Rules, towers(n, code))
	}
	return c
}

// TestMostPairs: just as many as there may be, and one more, which is what overlap.All refuses.
func TestMostPairs(t *testing.T) { // P18.1
	l := reported(t, singles(5, 511, 511, 511, 511, 9)) // four times 510, and 8
	if len(l) != api.MaxCriticals || Confluent(l) {
		t.Fatalf("%d", len(l))
	}
	for i, j := range l {
		rule, at := i/510, i%510+1
		want := tooBig(api.Critical{Outer: rule, Inner: rule, At: at, Code: api.ErrTooBig})
		if rule == 4 { // at is less than its 9, so that no rule is found in the end
			end := high(at+1, rule, -1)
			want = meets(api.Critical{Outer: rule, Inner: rule, At: at, Spot: at, Peak: high(9+at+1, rule, -1), L: end, R: end}, end...)
		}
		if !sameJoint(j, want) {
			t.Fatalf("%d: %v, want %v", i, j, want)
		}
	}
	hasNot(t, singles(5, 511, 511, 511, 511, 10), api.ErrTooBig)
}

// TestPairsTooBig: f 400 times, laid over itself at n, is f n + 400 times; what is too big is told of that pair alone.
func TestPairsTooBig(t *testing.T) { // P18.1, P18.2
	l := reported(t, singles(1, 400))
	if len(l) != 399 || Confluent(l) || !Confluent(l[:111]) || Confluent(l[:112]) {
		t.Fatalf("%d", len(l))
	}
	for i, j := range l {
		at := i + 1
		want := tooBig(api.Critical{At: at, Code: api.ErrTooBig})
		if at+400+1 <= api.MaxNodes {
			end := high(at+1, 0, -1)
			want = meets(api.Critical{At: at, Spot: at, Peak: high(at+401, 0, -1), L: end, R: end}, end...)
		}
		if !sameJoint(j, want) {
			t.Fatalf("%v, want %v", j, want)
		}
	}
	whole(t, singles(1, 256), true)
	whole(t, singles(1, 257), false)
}

// great is s of s .. of d of n s of zero, and greatEnd its normal form, of 3 * 2^n - 1 nodes and one for each s ahead; neither is looked at by its rules again.
func great(above, n int) []int { return slices.Concat(times(above, 1), row(3), high(n+1, 1, 0)) }

func greatEnd(above, n int) []int {
	t := row(3, 0)
	for range n {
		t = slices.Concat(row(2), t, t)
	}
	return append(times(above, 1), t...)
}

// between is the pair of two rules for a.
func between(outer, inner int, l, r []int) api.Critical {
	return api.Critical{Outer: outer, Inner: inner, Peak: row(5), L: l, R: r}
}

// TestEndsTooBig: a normal form of just as many nodes as there may be, and of one more, at either side; the other side's is not told then.
func TestEndsTooBig(t *testing.T) { // P18.1, P18.2
	if n := len(greatEnd(129, 7)); n != api.MaxNodes {
		t.Fatalf("%d nodes", n)
	}
	for above := 128; above <= 131; above++ {
		c := doubles().with(rule(row(5), great(above, 7)), rule(row(5), row(0)))
		first, second := between(1, 2, row(0), great(above, 7)), between(2, 1, great(above, 7), row(0))
		want := []api.Joint{parts(first, row(0), greatEnd(above, 7)), parts(second, greatEnd(above, 7), row(0))}
		if above > 129 {
			want = []api.Joint{tooBig(first), tooBig(second)}
		}
		has(t, c, want...)
		whole(t, c, false)
	}
}

// TestSameTooBig: sides that are the same one, and come to the same one, do not meet where that is too big.
func TestSameTooBig(t *testing.T) { // P18.1, P18.2
	for above := 128; above <= 131; above++ {
		side := great(above, 7)
		c := doubles().with(rule(row(5), side), rule(row(5), side))
		first, second := between(1, 2, side, side), between(2, 1, side, side)
		want := []api.Joint{meets(first, greatEnd(above, 7)...), meets(second, greatEnd(above, 7)...)}
		if above > 129 {
			want = []api.Joint{tooBig(first), tooBig(second)}
		}
		has(t, c, want...)
		whole(t, c, above <= 129)
	}
}

// TestTooBigOnTheWay: k(x) becomes zero, but what stands in it comes first.
func TestTooBigOnTheWay(t *testing.T) { // P18.1
	for n := 6; n <= 9; n++ {
		side := append(row(4), great(0, n)...)
		c := doubles().with(rule(row(4, -1), row(0)), rule(row(5), side), rule(row(5), row(0)))
		first, second := between(2, 3, row(0), side), between(3, 2, side, row(0))
		want := []api.Joint{meets(first, 0), meets(second, 0)}
		if n > 7 {
			want = []api.Joint{tooBig(first), tooBig(second)}
		}
		has(t, c, want...)
		whole(t, c, n <= 7)
	}
}

// TestOneTooBigAmongOthers: the pairs ahead and behind are told as they are.
func TestOneTooBigAmongOthers(t *testing.T) { // P18.1, P18.2
	c := doubles().with(rule(row(5), row(0)), rule(row(5), great(0, 8)), rule(row(5), row(3, 0)))
	big, small := great(0, 8), row(3, 0)
	has(t, c,
		tooBig(between(1, 2, big, row(0))), parts(between(1, 3, small, row(0)), small, row(0)),
		tooBig(between(2, 1, row(0), big)), tooBig(between(2, 3, small, big)),
		parts(between(3, 1, row(0), small), row(0), small), tooBig(between(3, 2, big, small)))
}

// TestLongPaths: no number of steps is too great.
func TestLongPaths(t *testing.T) { // P18.1, P18.2
	side := great(0, 12) // 12286 steps
	c := counts().with(rule(row(5), side), rule(row(5), row(0)))
	has(t, c, meets(between(3, 4, row(0), side), 0), meets(between(4, 3, side, row(0)), 0))
	whole(t, c, true)
}
