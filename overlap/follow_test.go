package overlap

import (
	"slices"
	"testing"

	"lodestone/api"
	"lodestone/step"
)

// theyPart holds that both sides come of the peak by one step each, and tells of how many pairs.
func theyPart(t *testing.T, s api.System) int {
	t.Helper()
	l, e := All(s)
	if e != api.OK {
		t.Fatalf("All(%v): %v", s, e)
	}
	n := 0
	for _, c := range l {
		if c.Code != api.OK {
			continue
		}
		n++
		left, e := step.Do(s, c.Peak, api.Redex{At: c.Spot, Rule: c.Inner})
		right, f := step.Do(s, c.Peak, api.Redex{At: 0, Rule: c.Outer})
		if e != api.OK || f != api.OK || !slices.Equal(left, c.L) || !slices.Equal(right, c.R) {
			t.Fatalf("%v: %v: %v, %v and %v, %v", s, c, left, e, right, f)
		}
	}
	return n
}

func TestTheyPart(t *testing.T) { // P17.3
	r := random(3)
	n := 0
	for range 3000 {
		n += theyPart(t, r.system())
	}
	if n < 10000 {
		t.Errorf("only %d pairs", n)
	}
}

func TestGreatOnesPart(t *testing.T) { // P17.3
	if n := theyPart(t, letters(towers(400))); n != 111 {
		t.Errorf("%d pairs", n)
	}
	if n := theyPart(t, letters(towers(150), rule(slices.Concat(row(3), high(300, -1)), row(6, -1, -1)))); n < 100 {
		t.Errorf("only %d pairs", n)
	}
}

// TestAllThatPart: where both sides of a peak come by a step below the root and one at it, and the lower one is at no place of what was bound, a pair is told of it.
func TestAllThatPart(t *testing.T) { // P17.1, P17.3
	peaks := 0
	r := random(4)
	for range 300 {
		s := r.system()
		for outer, a := range s.Rules {
			u := slices.Clone(a.L)
			for i, code := range u {
				if code < 0 {
					u[i] = 0
				}
			}
			for _, x := range step.All(s, u) {
				// u has as many nodes as the left side: so its places are those of the left side
				if a.L[x.At] < 0 || x.At == 0 && x.Rule == outer {
					continue
				}
				peaks++
				l, _ := Of(s, outer, x.Rule)
				if !slices.ContainsFunc(l, func(c api.Critical) bool { return c.At == x.At }) {
					t.Fatalf("Of(%v, %d, %d) has none at %d: %v", s, outer, x.Rule, x.At, l)
				}
			}
		}
	}
	if peaks < 300 {
		t.Errorf("only %d peaks", peaks)
	}
}

// constructors draws a system whose left sides' roots, f2 and f3, stand nowhere else in left sides.
func (r *random) constructors() api.System {
	s := api.System{Sig: all()}
	for range 2 + r.below(4) {
		left := row(2 + r.below(2))
		for range left[0] {
			left = append(left, slices.Repeat(row(1), r.below(3))...)
			left = append(left, r.term(1, variables())...)
		}
		s.Rules = append(s.Rules, r.rule(left))
	}
	return s
}

// TestRootsAlone: where the roots of left sides stand nowhere else in left sides, all pairs are at roots, of rules of one root.
func TestRootsAlone(t *testing.T) { // P17.4
	r := random(5)
	n := 0
	for range 1000 {
		s := r.constructors()
		l, e := All(s)
		if e != api.OK {
			t.Fatalf("%v: %v", s, e)
		}
		for _, c := range l {
			n++
			if c.At != 0 || c.Spot != 0 || c.Outer == c.Inner || s.Rules[c.Outer].L[0] != s.Rules[c.Inner].L[0] {
				t.Fatalf("%v: %v", s, c)
			}
		}
		// of each root the first rule alone
		roots := map[int]int{}
		var kept []api.Rule
		for _, a := range s.Rules {
			roots[a.L[0]]++
			if roots[a.L[0]] == 1 {
				kept = append(kept, a)
			}
		}
		has(t, api.System{Sig: s.Sig, Rules: kept})
	}
	if n < 1000 {
		t.Errorf("only %d pairs", n)
	}
}
