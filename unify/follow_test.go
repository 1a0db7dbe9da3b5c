package unify

import (
	"slices"
	"testing"

	"lodestone/api"
	"lodestone/subst"
)

// oneTerm holds what binds that were answered make of two terms, by layer 4.
func oneTerm(t *testing.T, sig []api.Symbol, a, b []int, s []api.Bind) {
	t.Helper()
	u, e := subst.Apply(sig, s, a)
	v, f := subst.Apply(sig, s, b)
	if e != f || !slices.Equal(u, v) || e != api.OK && e != api.ErrTooBig {
		t.Fatalf("%v and %v by %v: %v, %v and %v, %v", a, b, s, u, e, v, f)
	}
	if e != api.OK {
		return
	}
	if w, e := subst.Apply(sig, s, u); e != api.OK || !slices.Equal(w, u) {
		t.Fatalf("%v and %v by %v: %v, made again: %v, %v", a, b, s, u, w, e)
	}
}

// form holds the form of binds that were answered.
func form(t *testing.T, sig []api.Symbol, a, b []int, s []api.Bind) {
	t.Helper()
	if e := subst.Check(sig, s); e != api.OK {
		t.Fatalf("%v and %v: %v: %v", a, b, s, e)
	}
	vars := varsOf(a, b)
	for _, x := range s {
		if !slices.Contains(vars, x.Var) {
			t.Fatalf("%v and %v: %v: %d is none of their variables", a, b, s, x.Var)
		}
		if x.T[0] < 0 && -1-x.T[0] >= x.Var {
			t.Fatalf("%v and %v: %v: %d is not the least one", a, b, s, -1-x.T[0])
		}
		for _, y := range s {
			if slices.Contains(y.T, -1-x.Var) {
				t.Fatalf("%v and %v: %v: %d is bound, and stands there", a, b, s, x.Var)
			}
		}
	}
}

func TestOneTermOfSmallOnes(t *testing.T) { // P6.1, P6.3
	terms := smallTerms(5, 3)
	unified := 0
	for _, a := range terms {
		for _, b := range terms {
			s, e := Unify(three(), a, b)
			if e != api.OK {
				continue
			}
			unified++
			oneTerm(t, three(), a, b, s)
			form(t, three(), a, b, s)
		}
	}
	if unified < 10000 {
		t.Errorf("only %d were unified", unified)
	}
}

func TestOneTermOfDrawnOnes(t *testing.T) { // P6.1, P6.3
	r := random(2)
	unified := 0
	for range 3000 {
		u := r.term(1 + r.below(80))
		a, s := r.general(u, nil)
		b, _ := r.general(u, s)
		if s, e := Unify(all(), a, b); e == api.OK {
			unified++
			oneTerm(t, all(), a, b, s)
			form(t, all(), a, b, s)
		}
	}
	if unified < 2500 {
		t.Errorf("only %d were unified", unified)
	}
}

// TestTooBigOfBoth: the binds are told, though subst.Apply does not lay so much.
func TestTooBigOfBoth(t *testing.T) { // P6.3
	a, b := row(2, -1, -1), slices.Concat(row(2), tower(300, -2), tower(300, -3))
	binding(t, a, b, bind(0, tower(300, -2)...), bind(2, -2))
	s, _ := Unify(three(), a, b)
	oneTerm(t, three(), a, b, s)
	if u, e := subst.Apply(three(), s, a); e != api.ErrTooBig || len(u) > 0 {
		t.Errorf("%v, %v", u, e)
	}
}

// throughUnified holds that binds which unify two terms do, behind those that were answered, what they do by themselves.
func throughUnified(t *testing.T, a, b []int, s, r []api.Bind) {
	t.Helper()
	for _, x := range s {
		if !slices.Equal(made(r, x.T), made(r, row(-1-x.Var))) {
			t.Fatalf("%v and %v: %v makes of what %v has for %d another term than of the variable", a, b, r, s, x.Var)
		}
	}
}

// TestMostGeneral tries all binds to small terms for all small terms.
func TestMostGeneral(t *testing.T) { // P6.2, P6.4
	terms := smallTerms(4, 2)
	others := bindsOver(row(0, 1), smallTerms(3, 2))
	for _, a := range terms {
		for _, b := range terms {
			s, e := Unify(three(), a, b)
			if can := Can(three(), a, b); can != (e == api.OK) {
				t.Fatalf("%v and %v: %v, Can: %v", a, b, e, can)
			}
			for _, r := range others {
				if !slices.Equal(made(r, a), made(r, b)) {
					continue
				}
				if e != api.OK {
					t.Fatalf("%v and %v: %v, but %v unify them", a, b, e, r)
				}
				throughUnified(t, a, b, s, r)
			}
		}
	}
}

func TestMostGeneralOfDrawnOnes(t *testing.T) { // P6.2, P6.4
	r := random(3)
	for range 3000 {
		u := r.term(1 + r.below(80))
		a, other := r.general(u, nil)
		b, other := r.general(u, other)
		if !slices.Equal(made(other, a), made(other, b)) {
			t.Fatalf("%v and %v by %v", a, b, other)
		}
		s, e := Unify(all(), a, b)
		if e != api.OK || !Can(all(), a, b) {
			t.Fatalf("%v and %v: %v, but %v unify them", a, b, e, other)
		}
		throughUnified(t, a, b, s, other)
	}
}

func TestEitherWayRound(t *testing.T) { // P6.5
	hold := func(sig []api.Symbol, a, b []int) {
		s, e := Unify(sig, a, b)
		v, f := Unify(sig, b, a)
		if e != f || !sameBinds(s, v) || Can(sig, a, b) != Can(sig, b, a) {
			t.Fatalf("%v and %v: %v, %v; the other way round: %v, %v", a, b, s, e, v, f)
		}
	}
	for _, a := range smallTerms(4, 3) {
		for _, b := range smallTerms(5, 3) {
			hold(three(), a, b)
		}
	}
	r := random(4)
	for range 2000 {
		u := r.term(1 + r.below(80))
		a, s := r.general(u, nil)
		b, _ := r.general(u, s)
		hold(all(), a, b)
		hold(all(), a, r.term(1+r.below(20)))
	}
	for n := range 60 {
		hold(doublingOver(n))
	}
}

func doublingOver(n int) ([]api.Symbol, []int, []int) {
	a, b := doubling(n)
	return three(), a, b
}

func TestATermAndItself(t *testing.T) { // P6.5
	for _, a := range append(smallTerms(6, 2), tower(513, -1), tower(600, 0), slices.Concat(row(2), tower(400, -1), tower(400, -2))) {
		binding(t, a, slices.Clone(a))
	}
	r := random(5)
	for range 500 {
		a := r.term(1 + r.below(300))
		holds(t, all(), a, a, nil, api.OK)
	}
}
