package term

import (
	"slices"
	"testing"

	"lodestone/api"
)

// places are the terms at the places of a term, and the places above each, as the calls tell them.
type places struct{ subs, above [][]int }

func placesOf(t *testing.T, sig []api.Symbol, u []int) places {
	t.Helper()
	var p places
	for at := range u {
		s, e := Sub(sig, u, at)
		a, f := Above(sig, u, at)
		if e != api.OK || f != api.OK {
			t.Fatalf("%v at %d: %v, %v", u, at, e, f)
		}
		p.subs, p.above = append(p.subs, s), append(p.above, a)
	}
	return p
}

func (p places) isAbove(a, b int) bool { return slices.Contains(p.above[b], a) }

func (p places) shareNodes(a, b int) bool {
	return a < b+len(p.subs[b]) && b < a+len(p.subs[a])
}

func TestAboveBelowOrApart(t *testing.T) { // P3.6
	hold := func(sig []api.Symbol, u []int) {
		p := placesOf(t, sig, u)
		for a := range u {
			below := 0
			for b := range u {
				n := 0
				for _, is := range []bool{a == b, p.isAbove(a, b), p.isAbove(b, a), !p.shareNodes(a, b)} {
					if is {
						n++
					}
				}
				if n != 1 {
					t.Fatalf("%v: %d and %d: %d of the four hold", u, a, b, n)
				}
				if p.isAbove(a, b) {
					below++
				}
			}
			if len(p.subs[a]) != below+1 {
				t.Fatalf("%v: at %d a term of %d nodes, and %d below it", u, a, len(p.subs[a]), below)
			}
		}
	}
	for _, u := range smallTerms(7) {
		hold(three(), u)
	}
	for _, u := range someTerms() {
		hold(all(), u)
	}
}

// TestKidsAndAbove holds that the kids of a node are those that have it as the last one above them.
func TestKidsAndAbove(t *testing.T) { // P3.3, P3.6
	for _, u := range someTerms() {
		p := placesOf(t, all(), u)
		for at := range u {
			l, e := Kids(all(), u, at)
			if e != api.OK || !slices.IsSorted(l) {
				t.Fatalf("%v at %d: %v, %v", u, at, l, e)
			}
			for b := range u {
				up := p.above[b]
				if slices.Contains(l, b) != (len(up) > 0 && up[len(up)-1] == at) {
					t.Fatalf("%v: %d is among the kids of %d: %v", u, b, at, l)
				}
			}
		}
	}
}

func TestReplaceWithTheSame(t *testing.T) { // P3.7
	hold := func(sig []api.Symbol, u []int) {
		for at, s := range placesOf(t, sig, u).subs {
			if v, e := Replace(sig, u, at, s); e != api.OK || !slices.Equal(v, u) {
				t.Fatalf("%v at %d: %v, %v", u, at, v, e)
			}
		}
	}
	for _, u := range smallTerms(7) {
		hold(three(), u)
	}
	for _, u := range someTerms() {
		hold(all(), u)
	}
	hold(three(), tower(512, -1))
}

func TestWhatIsLaidIsFound(t *testing.T) { // P3.7
	laid := [][]int{{0}, {-9}, {1, 0}, {8, 0, -1, 1, -2, -1, 0, 2, 0, 0, -5, 0}}
	for _, u := range someTerms() {
		for at := range u {
			for _, v := range laid {
				w, e := Replace(all(), u, at, v)
				if e != api.OK {
					t.Fatalf("Replace(%v, %d, %v): %v", u, at, v, e)
				}
				if s, e := Sub(all(), w, at); e != api.OK || !slices.Equal(s, v) {
					t.Fatalf("Sub(%v, %d): %v, %v, want %v", w, at, s, e, v)
				}
			}
		}
	}
}

// TestAnyOrder replaces at two places that are apart: the later one first, and the earlier one first, with the difference of nodes counted.
func TestAnyOrder(t *testing.T) { // P3.7
	first, second := row(1, -7), row(3, 0, -8, 0)
	replace := func(u []int, at int, v []int) []int {
		w, e := Replace(all(), u, at, v)
		if e != api.OK {
			t.Fatalf("Replace(%v, %d, %v): %v", u, at, v, e)
		}
		return w
	}
	for _, u := range someTerms() {
		p := placesOf(t, all(), u)
		for a := range u {
			for b := a + 1; b < len(u); b++ {
				if p.isAbove(a, b) {
					continue
				}
				later := replace(replace(u, b, second), a, first)
				sooner := replace(replace(u, a, first), b+len(first)-len(p.subs[a]), second)
				if !slices.Equal(later, sooner) {
					t.Fatalf("%v at %d and %d: %v and %v", u, a, b, later, sooner)
				}
			}
		}
	}
}
