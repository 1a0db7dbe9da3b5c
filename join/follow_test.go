package join

import (
	"slices"
	"testing"

	"lodestone/api"
	"lodestone/norm"
	"lodestone/step"
)

// sameEnds holds that what any step makes of a term has the term's normal form, as far as nothing is too big, and tells how many steps there are. One of what they make is answered, for more steps.
func sameEnds(t *testing.T, r *random, n *norm.Norm, u []int) (int, []int) {
	t.Helper()
	s := n.System()
	end, e := n.Normal(u)
	l := step.All(s, u)
	if e != api.OK || len(l) == 0 {
		return 0, nil
	}
	held := 0
	var made [][]int
	for _, redex := range l {
		next, e := step.Do(s, u, redex)
		if e != api.OK || !isShort(s, next) {
			continue
		}
		got, e := n.Normal(next)
		if e == api.ErrTooBig {
			continue
		}
		if e != api.OK || !slices.Equal(got, end) {
			t.Fatalf("%v: %v has %v, but by %v it is %v, which has %v, %v", s, u, end, redex, next, got, e)
		}
		held++
		made = append(made, next)
	}
	if held == 0 {
		return 0, nil
	}
	return held, made[r.below(len(made))]
}

// meetAgain holds drawn terms of a system of which all is joined, for some steps each, and tells how many terms had several steps.
func meetAgain(t *testing.T, r *random, c certified, terms int) int {
	t.Helper()
	n := built(t, c)
	several := 0
	for range terms {
		u := r.subject(c.s)
		for range 4 {
			if u == nil || !isShort(c.s, u) {
				break
			}
			var held int
			held, u = sameEnds(t, r, n, u)
			if held > 1 {
				several++
			}
		}
	}
	return several
}

// TestKnownMeetAgain holds systems of which all is joined.
func TestKnownMeetAgain(t *testing.T) { // P18.3
	r := random(4)
	for i, c := range joinedSystems() {
		whole(t, c, true)
		if several := meetAgain(t, &r, c, 60); len(c.s.Rules) > 0 && several < 20 {
			t.Errorf("the system %d: only %d", i, several)
		}
	}
}

// TestDrawnMeetAgain holds drawn systems, if all is joined and there is something to join.
func TestDrawnMeetAgain(t *testing.T) { // P18.3
	systems, several := 0, 0
	eachDrawn(5, 200, func(r *random, c certified) {
		if l := reported(t, c); len(l) > 0 && Confluent(l) {
			systems++
			several += meetAgain(t, r, c, 20)
		}
	})
	if systems < 30 || several < 500 {
		t.Errorf("only %d terms of %d systems", several, systems)
	}
}

// TestPeaks: a joined pair's peak parts into what meets again, another one's into what does not: neither end has a redex, and both come of the peak.
func TestPeaks(t *testing.T) { // P18.1, P18.3
	joined, apart := 0, 0
	eachDrawn(6, 120, func(_ *random, c certified) {
		n := built(t, c)
		all := reported(t, c)
		for _, j := range all {
			if j.Code != api.OK {
				continue
			}
			end := func(at, rule int) []int {
				u, e := step.Do(c.s, j.Pair.Peak, api.Redex{At: at, Rule: rule})
				end, f := n.Normal(u)
				if e != api.OK || f != api.OK || len(step.All(c.s, end)) > 0 {
					t.Fatalf("%v: %v: %v, %v", c.s, j, e, f)
				}
				return end
			}
			left, right := end(j.Pair.Spot, j.Pair.Inner), end(0, j.Pair.Outer)
			if !slices.Equal(left, j.Left) || !slices.Equal(right, j.Right) || slices.Equal(left, right) != j.Joined {
				t.Fatalf("%v: %v: %v and %v", c.s, j, left, right)
			}
			if j.Joined {
				joined++
			} else {
				apart++
			}
			if whole, e := n.Normal(j.Pair.Peak); Confluent(all) && e == api.OK && !slices.Equal(whole, left) {
				t.Fatalf("%v: %v: the peak has %v", c.s, j, whole)
			}
		}
	})
	if joined < 300 || apart < 300 {
		t.Errorf("only %d joined, %d not", joined, apart)
	}
}

// alike holds that a system has all joined just if another one has, as far as no joint is too big, and tells what the first one has.
func alike(t *testing.T, c, other certified) (all bool, told bool) {
	t.Helper()
	one, two := reported(t, c), reported(t, other)
	if len(one) != len(two) {
		t.Fatalf("%v has %d pairs, %v %d", c.s, len(one), other.s, len(two))
	}
	if isTooBig(one) || isTooBig(two) {
		return false, false
	}
	if Confluent(one) != Confluent(two) {
		t.Fatalf("%v: %v; %v: %v", c.s, one, other.s, two)
	}
	return Confluent(one), len(one) > 0
}

// TestOtherOrder: with the rules in another order, all are joined just if they were; and if they are, each pair has the ends that it had.
func TestOtherOrder(t *testing.T) { // P18.4
	yes, no := 0, 0
	hold := func(r *random, c certified) {
		for range 3 {
			other, was := r.shuffled(c)
			all, told := alike(t, c, other)
			switch {
			case told && all:
				yes++
				sameJoints(t, reported(t, c), reported(t, other), was)
			case told:
				no++
			}
		}
	}
	r := random(7)
	for _, c := range slices.Concat(joinedSystems(), partedSystems()) {
		hold(&r, c)
	}
	eachDrawn(8, 120, hold)
	if yes < 50 || no < 120 {
		t.Errorf("only %d joined, %d not", yes, no)
	}
}

// sameJoints holds that two reports have the same joints, where was tells for each rule of the second one its number in the first one.
func sameJoints(t *testing.T, one, two []api.Joint, was []int) {
	t.Helper()
	for _, j := range two {
		j.Pair.Outer, j.Pair.Inner = was[j.Pair.Outer], was[j.Pair.Inner]
		if !slices.ContainsFunc(one, func(k api.Joint) bool { return sameJoint(j, k) }) {
			t.Fatalf("%v is none of %v", j, one)
		}
	}
}

// TestOtherVariables: which variables rules have shows nowhere in a report.
func TestOtherVariables(t *testing.T) { // P18.4
	yes, no := 0, 0
	hold := func(r *random, c certified) {
		other := r.renamed(c)
		all, told := alike(t, c, other)
		switch {
		case told && all:
			yes++
		case told:
			no++
		}
		has(t, other, reported(t, c)...)
		// and both at once
		other, _ = r.shuffled(other)
		alike(t, c, other)
	}
	r := random(9)
	for _, c := range slices.Concat(joinedSystems(), partedSystems()) {
		hold(&r, c)
	}
	eachDrawn(10, 120, hold)
	if yes < 20 || no < 40 {
		t.Errorf("only %d joined, %d not", yes, no)
	}
}
