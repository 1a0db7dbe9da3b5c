package step

import (
	"slices"
	"testing"

	"lodestone/api"
	"lodestone/match"
	"lodestone/subst"
	"lodestone/term"
)

// eachSubject hands out systems with terms: all small ones, and drawn ones.
func eachSubject(seed random, nodes int, hold func(s api.System, u []int)) {
	for _, s := range smallSystems() {
		for _, u := range smallTerms(nodes, 2) {
			hold(s, u)
		}
	}
	r := seed
	for range 200 {
		s := r.system()
		hold(s, r.subject(s))
	}
}

func TestFirstIsOfAll(t *testing.T) { // P8.4
	found := 0
	eachSubject(2, 6, func(s api.System, u []int) {
		l := All(s, u)
		first, ok := First(s, u)
		if ok != (len(l) > 0) {
			t.Fatalf("First(%v, %v): %v, and All: %v", s, u, ok, l)
		}
		if !ok {
			return
		}
		found++
		if !slices.Contains(l, first) {
			t.Fatalf("First(%v, %v): %v, and All: %v", s, u, first, l)
		}
		above, _ := term.Above(s.Sig, u, first.At)
		for _, r := range l {
			over, _ := term.Above(s.Sig, u, r.At)
			if slices.Contains(over, first.At) {
				t.Fatalf("First(%v, %v): %v, and below it %v", s, u, first, r)
			}
			if r.At < first.At && !slices.Contains(above, r.At) {
				t.Fatalf("First(%v, %v): %v, and left of it %v", s, u, first, r)
			}
			if r.At == first.At && r.Rule < first.Rule {
				t.Fatalf("First(%v, %v): %v, and ahead of it %v", s, u, first, r)
			}
		}
	})
	if found < 1000 {
		t.Errorf("only %d terms had a redex", found)
	}
}

// TestAllAreDone: what Do makes of a redex of All is a term, whose variables the term has; of others it makes none.
func TestAllAreDone(t *testing.T) { // P8.4
	eachSubject(3, 5, func(s api.System, u []int) {
		l := All(s, u)
		for at := -2; at < len(u)+2; at++ {
			for i := -2; i < len(s.Rules)+2; i++ {
				v, e := Do(s, u, redex(at, i))
				if !slices.Contains(l, redex(at, i)) {
					if e == api.OK || e == api.ErrTooBig || len(v) > 0 {
						t.Fatalf("Do(%v, %v, %d, %d): %v, %v, and All: %v", s, u, at, i, v, e, l)
					}
					continue
				}
				if e != api.OK && e != api.ErrTooBig || e == api.OK && !isTermOf(s.Sig, v, u) {
					t.Fatalf("Do(%v, %v, %d, %d): %v, %v", s, u, at, i, v, e)
				}
			}
		}
	})
}

// isTermOf tells whether a row is a term that is not too big, with no variable that another one has not.
func isTermOf(sig []api.Symbol, v, u []int) bool {
	vars := term.Vars(u)
	free := slices.ContainsFunc(term.Vars(v), func(x int) bool { return !slices.Contains(vars, x) })
	return term.Check(sig, v) == api.OK && len(v) <= api.MaxNodes && !free
}

func TestPartByPart(t *testing.T) { // P8.5
	parts := 0
	eachSubject(4, 6, func(s api.System, u []int) {
		kids, e := term.Kids(s.Sig, u, 0)
		if e != api.OK {
			t.Fatalf("Kids(%v): %v", u, e)
		}
		var want []api.Redex
		for _, kid := range kids {
			arg := partAt(s.Sig, u, kid)
			for _, r := range All(s, arg) {
				parts++
				want = append(want, redex(kid+r.At, r.Rule))
				v, e := Do(s, arg, r)
				if e == api.OK {
					v, e = term.Replace(s.Sig, u, kid, v)
				}
				if got, f := Do(s, u, redex(kid+r.At, r.Rule)); f != e || !slices.Equal(got, v) {
					t.Fatalf("Do(%v, %v, %v) of the argument at %d: %v, %v, want %v, %v", s, u, r, kid, got, f, v, e)
				}
			}
		}
		below := slices.DeleteFunc(All(s, u), func(r api.Redex) bool { return r.At == 0 })
		if !slices.Equal(below, want) {
			t.Fatalf("All(%v, %v) below the root: %v, want %v", s, u, below, want)
		}
	})
	if parts < 1000 {
		t.Errorf("only %d redexes", parts)
	}
}

// TestPartsThatAreTooBig: an argument may be rewritten, though the whole would be too big by it; one that is too big makes the whole so.
func TestPartsThatAreTooBig(t *testing.T) { // P8.5
	s := doubling()
	arg := tower(250, 0)
	becomes(t, s, arg, redex(0, 0), slices.Concat(row(2), tower(249, 0), tower(249, 0))...)
	fails(t, s, slices.Concat(row(2), arg, tower(13, 0)), redex(1, 0), api.ErrTooBig)
	becomes(t, s, slices.Concat(row(2), arg, tower(12, 0)), redex(1, 0), slices.Concat(row(2, 2), tower(249, 0), tower(249, 0), tower(12, 0))...)
	fails(t, s, tower(300, 0), redex(0, 0), api.ErrTooBig)
	fails(t, s, tower(301, 0), redex(1, 0), api.ErrTooBig)
}

// holdByBinds takes a redex at a term's root, and what binds make of the term, of any size.
func holdByBinds(t *testing.T, s api.System, u []int, i int, binds []api.Bind) {
	t.Helper()
	bound := made(binds, u)
	if !slices.Contains(All(s, bound), redex(0, i)) {
		t.Fatalf("All(%v, %v): not rule %d, which %v has", s, bound, i, u)
	}
	v, e := Do(s, u, redex(0, i))
	got, f := Do(s, bound, redex(0, i))
	if e == api.OK && f == api.OK && !slices.Equal(got, made(binds, v)) {
		t.Fatalf("Do(%v, %v, %d), by %v: %v, want %v", s, u, i, binds, got, made(binds, v))
	}
	tooBig := e == api.ErrTooBig || len(made(binds, v)) > api.MaxNodes
	if e != api.OK && e != api.ErrTooBig || tooBig != (f == api.ErrTooBig) {
		t.Fatalf("Do(%v, %v, %d): %v, and by %v: %v", s, u, i, e, binds, f)
	}
}

func TestByBinds(t *testing.T) { // P8.6
	held := 0
	r := random(5)
	terms := smallTerms(4, 2) // over three and over all alike
	eachSubject(6, 5, func(s api.System, u []int) {
		for _, x := range All(s, u) {
			part := partAt(s.Sig, u, x.At)
			binds := r.binds(func() []int { return terms[r.below(len(terms))] })
			holdByBinds(t, s, part, x.Rule, nil)
			holdByBinds(t, s, part, x.Rule, binds)
			held++
		}
	})
	if held < 1000 {
		t.Errorf("only %d redexes", held)
	}
	d := doubling()
	for n := range 20 {
		holdByBinds(t, d, row(1, -1), 0, []api.Bind{bind(0, tower(246+n, -2)...)})
		holdByBinds(t, d, row(2, -1, -2), 1, []api.Bind{bind(0, tower(500+n, -2)...), bind(1, tower(700, 0)...)})
	}
}

// TestInstances: what binds make of a left side is rewritten to what they make of the right side.
func TestInstances(t *testing.T) { // P8.3, P8.6
	r := random(7)
	for range 1000 {
		s := r.system()
		binds := r.binds(func() []int { return r.subject(s) })
		for i, a := range s.Rules {
			v, e := subst.Apply(s.Sig, binds, a.R)
			if e == api.OK {
				becomes(t, s, made(binds, a.L), redex(0, i), v...)
			} else {
				fails(t, s, made(binds, a.L), redex(0, i), e)
			}
		}
	}
}

// TestAllAsMatched holds All against match.Match, by which the chapter says what a redex is.
func TestAllAsMatched(t *testing.T) { // P8.1
	eachSubject(8, 5, func(s api.System, u []int) {
		var want []api.Redex
		for at := range u {
			part, _ := term.Sub(s.Sig, u, at)
			for i, a := range s.Rules {
				if _, ok := match.Match(s.Sig, a.L, part); ok {
					want = append(want, redex(at, i))
				}
			}
		}
		finds(t, s, u, want...)
	})
}
