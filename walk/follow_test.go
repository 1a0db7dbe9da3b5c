package walk

import (
	"slices"
	"testing"

	"lodestone/api"
	"lodestone/step"
)

// TestAlongAWalk: Along of a walk's steps is its end.
func TestAlongAWalk(t *testing.T) { // P9.3
	long, gone := 0, 0
	eachSubject(4, 6, func(s api.System, u []int) {
		w, e := Walk(s, u, 12)
		if e != api.OK {
			return
		}
		gone++
		if len(w.Steps) > 3 {
			long++
		}
		leads(t, s, u, w.Steps, w.End...)
	})
	if gone < 1000 || long < 200 {
		t.Errorf("only %d walks, %d of more than three steps", gone, long)
	}
	w, _ := Walk(sorting(), word(64, 64), api.MaxPath)
	leads(t, sorting(), word(64, 64), w.Steps, sorted(64, 64)...)
}

// holdBeginnings takes a walk apart at each of its steps.
func holdBeginnings(t *testing.T, s api.System, u []int, most int) {
	t.Helper()
	whole, e := Walk(s, u, most)
	if e != api.OK {
		return
	}
	for less := range most {
		w, e := Walk(s, u, less)
		n := min(less, len(whole.Steps))
		if e != api.OK || !slices.Equal(w.Steps, whole.Steps[:n]) || w.Normal && n < len(whole.Steps) {
			t.Fatalf("Walk(%v, %v, %d): %v, %v, and %d: %v", s, u, less, w, e, most, whole)
		}
		walks(t, s, w.End, most-n, api.Walk{Steps: whole.Steps[n:], End: whole.End, Normal: whole.Normal})
	}
}

// TestBeginnings: a walk of less steps has a beginning of the same; from its end on a walk goes on as the longer one.
func TestBeginnings(t *testing.T) { // P9.3
	eachSubject(5, 5, func(s api.System, u []int) { holdBeginnings(t, s, u, 6) })
	holdBeginnings(t, sorting(), word(5, 5), 30)
	holdBeginnings(t, sums(), slices.Concat(row(2), tower(6, 0), tower(6, 0)), 10)
	holdBeginnings(t, doubles(), slices.Concat(row(3), tower(5, 0)), 20)
}

// TestBeginningsOfTooBigOnes: a walk that is too big has beginnings that are not, up to where it becomes so.
func TestBeginningsOfTooBigOnes(t *testing.T) { // P9.1, P9.3
	u := slices.Concat(row(3), tower(41, 0))
	last, became := api.Walk{}, false
	for most := range 60 {
		w, e := Walk(doubles(), u, most)
		if became && e != api.ErrTooBig || e != api.OK && e != api.ErrTooBig {
			t.Fatalf("%d steps: %v", most, e)
		}
		became = e == api.ErrTooBig
		if !became {
			if len(w.Steps) != most || w.Normal || len(w.End) > api.MaxNodes {
				t.Fatalf("%d steps: %v", most, w)
			}
			last = w
		}
	}
	r, _ := step.First(doubles(), last.End)
	if _, e := step.Do(doubles(), last.End, r); !became || e != api.ErrTooBig {
		t.Errorf("behind %d steps: %v", len(last.Steps), e)
	}
}

// TestNoPartHasARedex: no proper part of what a step rewrites has a redex.
func TestNoPartHasARedex(t *testing.T) { // P9.4
	inner := 0
	eachSubject(6, 6, func(s api.System, u []int) {
		w, _ := Walk(s, u, 8)
		for i, r := range w.Steps {
			at, e, _ := Along(s, u, w.Steps[:i])
			if e != api.OK {
				t.Fatalf("Along(%v, %v, %v): %v", s, u, w.Steps[:i], e)
			}
			part := partAt(s.Sig, at, r.At)
			for place := 1; place < len(part); place++ {
				if l := plainAll(s, partAt(s.Sig, part, place)); len(l) > 0 {
					t.Fatalf("Walk(%v, %v): the step %d at %d, and within %v: %v", s, u, i, r.At, part, l)
				}
			}
			if l := step.All(s, part); len(l) == 0 || l[0] != redex(0, r.Rule) {
				t.Fatalf("Walk(%v, %v): the step %d: %v, and of %v: %v", s, u, i, r, part, l)
			}
			if len(part) > 2 && r.At > 0 {
				inner++
			}
		}
	})
	if inner < 500 {
		t.Errorf("only %d steps within a term", inner)
	}
}

// TestAsSteps holds a walk against step.First and step.Do, by which the chapter says what it is.
func TestAsSteps(t *testing.T) { // P9.1
	eachSubject(7, 6, func(s api.System, u []int) {
		w, e := Walk(s, u, 10)
		at := u
		for _, r := range w.Steps {
			first, ok := step.First(s, at)
			next, f := step.Do(s, at, first)
			if first != r || !ok || f != api.OK {
				t.Fatalf("Walk(%v, %v): %v, %v, and at %v: %v", s, u, w, e, at, first)
			}
			at = next
		}
		if _, ok := step.First(s, at); e == api.OK && (!slices.Equal(at, w.End) || ok == w.Normal || ok && len(w.Steps) < 10) {
			t.Fatalf("Walk(%v, %v): %v, and the end: %v, %v", s, u, w, at, ok)
		}
	})
}
