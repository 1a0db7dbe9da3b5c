package walk

import (
	"math"
	"slices"
	"testing"

	"lodestone/api"
)

func TestEmptyRow(t *testing.T) { // P9.2, R4
	for _, u := range [][]int{{0}, {-1}, {2, 0, 0}, {2, 1, 0, 1, 0}, tower(api.MaxNodes, 0)} {
		leads(t, sums(), u, nil, u...)
		leads(t, sums(), u, []api.Redex{}, u...)
		leads(t, over(), u, nil, u...)
	}
	leads(t, api.System{}, row(-7), nil, -7)
}

// TestAnyRedexes: what is told need not be the innermost, nor the first rule, nor go to the end.
func TestAnyRedexes(t *testing.T) { // P9.2
	u := row(2, 0, 2, 1, 0, 0)
	leads(t, sums(), u, steps(redex(0, 0)), 2, 1, 0, 0)
	leads(t, sums(), u, steps(redex(0, 0), redex(0, 1)), 1, 2, 0, 0)
	leads(t, sums(), u, steps(redex(0, 0), redex(0, 1), redex(1, 0)), 1, 0)
	leads(t, sums(), u, steps(redex(2, 1), redex(0, 0)), 1, 2, 0, 0)
	two := over(rule(row(1, -1), row(0)), rule(row(1, -1), row(-1)), rule(row(2, -1, -2), row(2, -2, -1)))
	leads(t, two, row(2, 1, 0, 1, -1), steps(redex(0, 2), redex(1, 1), redex(0, 2), redex(1, 0)), 2, 0, -1)
	// the right one ahead of the left one
	leads(t, sums(), row(2, 2, 0, 0, 2, 0, 0), steps(redex(4, 0), redex(1, 0), redex(0, 0)), 0)
}

// TestLaterRedexes: each place is one of the term that is come to, not of the first one.
func TestLaterRedexes(t *testing.T) { // P9.2
	u := row(2, 0, 2, 0, 0)
	stops(t, sums(), u, steps(redex(0, 0), redex(2, 0)), api.ErrStepNone, 1)
	stops(t, sums(), u, steps(redex(0, 0), redex(3, 0)), api.ErrTermPlace, 1)
	leads(t, sums(), u, steps(redex(0, 0), redex(0, 0)), 0)
	grow := over(rule(row(0), row(2, 0, 0)))
	leads(t, grow, row(0), steps(redex(0, 0), redex(2, 0), redex(4, 0)), 2, 0, 2, 0, 2, 0, 0)
	stops(t, grow, row(0), steps(redex(0, 0), redex(2, 0), redex(5, 0)), api.ErrTermPlace, 2)
}

func TestFirstOrLaterThatCantBe(t *testing.T) { // P9.2, R2
	circle := over(rule(row(2, -1, -2), row(2, -2, -1)), rule(row(1, 0), row(0)))
	u := row(2, 0, -1)
	for n := range 6 {
		good := slices.Repeat(steps(redex(0, 0)), n)
		behind := steps(redex(0, 0), redex(-1, -1))
		for _, x := range []struct {
			r api.Redex
			e api.Errno
		}{
			{redex(-1, 0), api.ErrTermPlace}, {redex(3, 0), api.ErrTermPlace}, {redex(3, 9), api.ErrTermPlace},
			{redex(math.MinInt, 0), api.ErrTermPlace}, {redex(math.MaxInt, -1), api.ErrTermPlace},
			{redex(0, -1), api.ErrArg}, {redex(0, 2), api.ErrArg}, {redex(1, math.MaxInt), api.ErrArg}, {redex(2, math.MinInt), api.ErrArg},
			{redex(0, 1), api.ErrStepNone}, {redex(1, 0), api.ErrStepNone}, {redex(2, 0), api.ErrStepNone},
		} {
			stops(t, circle, u, append(slices.Clone(good), x.r), x.e, n)
			stops(t, circle, u, slices.Concat(good, steps(x.r), behind), x.e, n)
		}
	}
}

// TestNormalFormStops: of a term without redexes none can be rewritten.
func TestNormalFormStops(t *testing.T) { // P9.2
	for _, u := range [][]int{{0}, {-1}, {1, 0}} {
		stops(t, sums(), u, steps(redex(0, 0)), api.ErrStepNone, 0)
	}
	stops(t, sums(), row(2, 0, 0), steps(redex(0, 0), redex(0, 0)), api.ErrStepNone, 1)
	stops(t, over(), row(2, 0, 0), steps(redex(0, 0)), api.ErrArg, 0)
}

// TestLongRow: how many redexes a row has is not bounded.
func TestLongRow(t *testing.T) { // P9.2
	circle := over(rule(row(2, -1, -2), row(2, -2, -1)))
	l := slices.Repeat(steps(redex(0, 0)), 2*api.MaxPath+1)
	leads(t, circle, row(2, 0, -1), l, 2, -1, 0)
	stops(t, circle, row(2, 0, -1), append(l, redex(1, 0)), api.ErrStepNone, len(l))
}

// someSteps draws a row of redexes from a term on: most can be rewritten.
func (r *random) someSteps(s api.System, u []int) []api.Redex {
	var l []api.Redex
	for range r.below(8) {
		next := redex(r.below(len(u)+2)-1, r.below(len(s.Rules)+2)-1)
		if can := plainAll(s, u); len(can) > 0 && r.below(8) > 0 {
			next = can[r.below(len(can))]
		}
		l = append(l, next)
		if v, e := plainDo(s, u, next); e == api.OK && len(v) <= api.MaxNodes {
			u = v
		}
	}
	return l
}

func TestDrawnRows(t *testing.T) { // P9.2
	r := random(2)
	done, several := map[api.Errno]int{}, 0
	hold := func(s api.System, u []int) {
		l := r.someSteps(s, u)
		want, e, n := plainAlong(s, u, l)
		if e == api.OK {
			leads(t, s, u, l, want...)
		} else {
			stops(t, s, u, l, e, n)
		}
		done[e]++
		if e == api.OK && len(l) > 3 {
			several++
		}
	}
	eachSubject(3, 5, hold)
	for range 400 {
		s := r.system()
		hold(s, r.subject(s))
	}
	if several < 100 || done[api.ErrTermPlace] < 50 || done[api.ErrArg] < 50 || done[api.ErrStepNone] < 50 {
		t.Errorf("only %d long rows, %v", several, done)
	}
}
