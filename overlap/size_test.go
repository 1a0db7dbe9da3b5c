package overlap

import (
	"slices"
	"strconv"
	"testing"

	"lodestone/api"
)

// towers is f of f .. of x -> x, with n of them.
func towers(n int) api.Rule { return rule(append(slices.Repeat([]int{3}, n), -1), row(-1)) }

// high is h of h .. of end, with n nodes in all.
func high(n, end int) []int { return append(slices.Repeat([]int{5}, n-1), end) }

// TestPeakOfMostNodes: f 400 times, laid over itself at n, is f n + 400 times.
func TestPeakOfMostNodes(t *testing.T) { // P17.1
	s := letters(towers(400))
	l, e := Of(s, 0, 0)
	if e != api.OK || len(l) != 399 {
		t.Fatalf("%d pairs, %v", len(l), e)
	}
	for i, c := range l {
		at := i + 1
		want := tooBig(0, 0, at)
		if at+400+1 <= api.MaxNodes {
			end := append(slices.Repeat([]int{3}, at), -1)
			want = api.Critical{At: at, Spot: at, Peak: slices.Concat(slices.Repeat([]int{3}, 400), end), L: end, R: end}
		}
		if !sameCritical(c, want) {
			t.Fatalf("at %d: %v, want %v", at, c, want)
		}
	}
	if len(l[110].Peak) != api.MaxNodes || l[111].Code != api.ErrTooBig {
		t.Errorf("%d nodes, %v", len(l[110].Peak), l[111].Code)
	}
}

// TestPeakAloneTooBig: both sides are small.
func TestPeakAloneTooBig(t *testing.T) { // P17.1
	double := func(n int) []int { return slices.Concat(row(6), high(n, -1), row(3), high(n, -1)) }
	for _, extra := range []int{0, 1} {
		left := slices.Concat(slices.Repeat([]int{4}, extra), row(6, -1, 3, -1))
		s := letters(rule(left, row(0)), rule(slices.Concat(row(3), high(255, -1)), row(-1)))
		want := api.Critical{
			Inner: 1, At: 2, Spot: 256, Peak: double(255),
			L: slices.Concat(row(6), high(255, -1), row(-1)), R: row(0)}
		if extra == 1 {
			want = tooBig(0, 1, 3)
		}
		meet(t, s, 0, 1, want)
	}
	if n := len(double(255)); n != api.MaxNodes {
		t.Errorf("%d nodes", n)
	}
}

// TestLeftAloneTooBig: the inner rule doubles x.
func TestLeftAloneTooBig(t *testing.T) { // P17.1
	for _, extra := range []int{0, 1} {
		above := slices.Repeat([]int{4}, 1+extra)
		s := letters(rule(slices.Concat(above, row(3), high(255, -1)), row(0)), rule(row(3, -1), row(6, -1, -1)))
		want := api.Critical{
			Inner: 1, At: 1, Spot: 1, Peak: slices.Concat(row(4, 3), high(255, -1)),
			L: slices.Concat(row(4, 6), high(255, -1), high(255, -1)), R: row(0)}
		if n := len(want.L); n != api.MaxNodes {
			t.Errorf("%d nodes", n)
		}
		if extra == 1 {
			want = tooBig(0, 1, 2)
		}
		meet(t, s, 0, 1, want)
	}
}

// TestRightAloneTooBig: the outer rule doubles x.
func TestRightAloneTooBig(t *testing.T) { // P17.1
	for _, extra := range []int{0, 1} {
		above := slices.Repeat([]int{4}, 1+extra)
		s := letters(rule(row(4, 3, -1), slices.Concat(above, row(6, -1, -1))), rule(slices.Concat(row(3), high(255, -1)), row(0)))
		want := api.Critical{
			Inner: 1, At: 1, Spot: 1, Peak: slices.Concat(row(4, 3), high(255, -1)),
			L: row(4, 0), R: slices.Concat(row(4, 6), high(255, -1), high(255, -1))}
		if n := len(want.R); n != api.MaxNodes {
			t.Errorf("%d nodes", n)
		}
		if extra == 1 {
			want = tooBig(0, 1, 1)
		}
		meet(t, s, 0, 1, want)
	}
}

// rake is p of its first part and p of the next one and .., with a behind the last.
func rake(parts ...[]int) []int {
	var t []int
	for _, p := range parts {
		t = append(append(t, 6), p...)
	}
	return append(t, 0)
}

// doubling are two terms without a variable in common. Unified, each of n variables has twice as many nodes as the next one, and one more; the last one has end.
func doubling(n int, end []int) ([]int, []int) {
	var a, b [][]int
	for i := range n {
		x, y := row(-1-i), row(-1-i)
		a = append(a, x, x)
		b = append(b, y, row(6, -2-i, -2-i))
	}
	a = append(a, row(-1-n))
	b = append(b, row(-1-n))
	return slices.Concat(row(3), rake(append(a, row(-1-n))...)), slices.Concat(row(3), rake(append(b, end)...))
}

// TestTermsThatDouble: whether they unify is found without writing them out; what is too big for unify.Unify is told as any other pair that is too big.
func TestTermsThatDouble(t *testing.T) { // P17.1
	for n := range 60 {
		a, b := doubling(n, row(0))
		s := letters(rule(slices.Concat(row(4), a), row(1)), rule(b, row(2)))
		l, e := Of(s, 0, 1)
		if e != api.OK || len(l) != 1 || l[0].At != 1 {
			t.Fatalf("%d: %v, %v", n, l, e)
		}
		// six levels make a peak of 511 nodes
		want := api.OK
		if n > 6 {
			want = api.ErrTooBig
		}
		if l[0].Code != want || n == 6 && len(l[0].Peak) != 511 {
			t.Fatalf("%d: %v", n, l)
		}
		if n > 6 && !sameCritical(l[0], tooBig(0, 1, 1)) || n <= 6 && (l[0].Spot != 1 || !slices.Equal(l[0].L, row(4, 2)) || !slices.Equal(l[0].R, row(1))) {
			t.Fatalf("%d: %v", n, l)
		}
		// with another end: a variable would have to be a part of itself
		_, b = doubling(n, row(6, -1, -1))
		meet(t, letters(rule(slices.Concat(row(4), a), row(1)), rule(b, row(2))), 0, 1)
	}
}

// TestMostPairs: just as many as there may be, and one more; those that are too big are counted, too.
func TestMostPairs(t *testing.T) { // P17.2
	few := func(last int) api.System {
		var l []api.Rule
		for i := range 4 {
			l = append(l, rule(append(slices.Repeat([]int{i}, 511), -1), row(-1)))
		}
		l = append(l, rule(append(slices.Repeat([]int{4}, last), -1), row(-1)))
		return api.System{Sig: []api.Symbol{sym("e", 1), sym("f", 1), sym("g", 1), sym("h", 1), sym("k", 1)}, Rules: l}
	}
	l, e := All(few(9)) // four times 510, and 8
	if e != api.OK || len(l) != api.MaxCriticals {
		t.Fatalf("%d pairs, %v", len(l), e)
	}
	for i, c := range l[:510] {
		if i > 0 && !sameCritical(c, tooBig(0, 0, i+1)) || i == 0 && c.Code != api.ErrTooBig {
			t.Fatalf("%d: %v", i, c)
		}
	}
	if last := l[len(l)-1]; last.Code != api.OK || last.Spot != 8 || len(last.Peak) != 8+9+1 {
		t.Errorf("%v", last)
	}
	hasNot(t, few(10), api.ErrTooBig)
	hasNot(t, few(511), api.ErrTooBig)
}

// TestMostPairsOfManyRules: the last rules of many bring the last pair.
func TestMostPairsOfManyRules(t *testing.T) { // P17.2
	// of n rules for one constant, each over each other one: n times n - 1; and a tower of n brings n - 1
	system := func(tower int) api.System {
		var l []api.Rule
		for i := range 45 {
			l = append(l, rule(row(0), high(i+1, 1)))
		}
		return letters(append(l, towers(tower))...)
	}
	l, e := All(system(69))
	if e != api.OK || len(l) != api.MaxCriticals {
		t.Fatalf("%d pairs, %v", len(l), e)
	}
	i := 0
	for outer := range 45 {
		for inner := range 45 {
			if outer == inner {
				continue
			}
			want := api.Critical{Outer: outer, Inner: inner, Peak: row(0), L: high(inner+1, 1), R: high(outer+1, 1)}
			if !sameCritical(l[i], want) {
				t.Fatalf("%d: %v, want %v", i, l[i], want)
			}
			i++
		}
	}
	hasNot(t, system(70), api.ErrTooBig)
}

// TestManySymbolsAndRules has as many symbols and rules as there may be, and many places at which nothing unifies. Of the rule i the left side begins with g and g, of the number i, and ends with another g of a variable; that one is laid over by the rules that begin with it.
func TestManySymbolsAndRules(t *testing.T) { // P17.2
	s := api.System{Sig: []api.Symbol{sym("f", 8)}}
	for i := range api.MaxSymbols - 1 {
		s.Sig = append(s.Sig, sym("g"+strconv.Itoa(i), 1))
	}
	var want []api.Critical
	for i := range api.MaxRules {
		begin, end := 1+i%63, 1+i/63
		l := slices.Concat(row(begin, begin), slices.Repeat(row(0, -1, -2, -3, -4, -5, -6, -7), 60), row(end, -8))
		s.Rules = append(s.Rules, rule(l, row(-1)))
		if end == 1 {
			want = append(want, tooBig(i, 0, 482), tooBig(i, 63, 482))
		} else {
			want = append(want, tooBig(i, 1, 482))
		}
	}
	has(t, s, want...)
}
