package match

import (
	"slices"
	"testing"

	"lodestone/api"
	"lodestone/subst"
)

func TestApplyLeadsToTheTerm(t *testing.T) { // P5.3
	matched := 0
	hold := func(sig []api.Symbol, p, u []int) {
		s, ok := Match(sig, p, u)
		if !ok {
			return
		}
		matched++
		if v := applied(t, sig, s, p); !slices.Equal(v, u) {
			t.Fatalf("Match(%v, %v): %v, and Apply of that: %v", p, u, s, v)
		}
	}
	for _, p := range smallTerms(5, 2) {
		for _, u := range smallTerms(5, 2) {
			hold(three(), p, u)
		}
	}
	r := random(2)
	for range 2000 {
		hold(all(), r.term(1+r.below(4)), r.term(1+r.below(40)))
	}
	if matched < 1000 {
		t.Errorf("only %d terms were matched", matched)
	}
}

// TestApplyIsTooBig: the binds are told, though subst.Apply does not lay so much.
func TestApplyIsTooBig(t *testing.T) { // P5.3
	u := slices.Concat(row(2), tower(300, 0), tower(300, 0))
	s, ok := Match(three(), row(2, -1, -1), u)
	if !ok || !sameBinds(s, binds(bind(0, tower(300, 0)...))) {
		t.Fatalf("%v, %v", s, ok)
	}
	if v, e := subst.Apply(three(), s, row(2, -1, -1)); e != api.ErrTooBig || len(v) > 0 {
		t.Errorf("%v, %v", v, e)
	}
}

// onlyOf are the binds of a pattern's variables, with those that stay bound to themselves.
func onlyOf(p []int, s []api.Bind) []api.Bind {
	var l []api.Bind
	for _, v := range varsOf(p) {
		l = append(l, bind(v, made(s, row(-1-v))...))
	}
	return l
}

func TestWhatApplyMakesIsMatched(t *testing.T) { // P5.3
	hold := func(sig []api.Symbol, p []int, s []api.Bind) {
		u := applied(t, sig, s, p)
		if got, ok := Match(sig, p, u); !ok || !sameBinds(got, onlyOf(p, s)) {
			t.Fatalf("Match(%v, %v), made by %v: %v, %v", p, u, s, got, ok)
		}
	}
	for _, p := range smallTerms(5, 2) {
		hold(three(), p, nil)
		for _, s := range bindsOver(row(0, 1), smallTerms(2, 2)) {
			hold(three(), p, s)
			hold(three(), p, s[1:])
		}
	}
	r := random(3)
	for range 2000 {
		hold(all(), r.term(1+r.below(30)), r.binds())
	}
}

// TestWhatIsAlmostMade changes one code of what binds made: then nothing, or other binds, make it.
func TestWhatIsAlmostMade(t *testing.T) { // P5.1, P5.3
	r := random(4)
	refused := 0
	for range 2000 {
		p, s := r.term(1+r.below(30)), r.binds()
		u := applied(t, all(), s, p)
		at := r.below(len(u))
		if u[at] > 0 {
			continue
		}
		u[at] = -1 - 500 // no variable has that number
		got, ok := Match(all(), p, u)
		if ok != almostMade(p, s, at) || ok && !slices.Equal(applied(t, all(), got, p), u) {
			t.Fatalf("Match(%v, %v): %v, %v", p, u, got, ok)
		}
		if !ok {
			refused++
		}
	}
	if refused < 200 {
		t.Errorf("only %d were refused", refused)
	}
}

// almostMade tells whether a place, in what binds make of a pattern, is in what a variable became that stands in it once.
func almostMade(p []int, s []api.Bind, at int) bool {
	for i, code := range p {
		at -= len(made(s, row(code)))
		if at < 0 {
			return code < 0 && !slices.Contains(p[:i], code) && !slices.Contains(p[i+1:], code)
		}
	}
	return false
}

func TestVariantIsAnEquivalence(t *testing.T) { // P5.4
	rules := smallRules(3, 2)
	is := make([][]bool, len(rules))
	for i, a := range rules {
		for _, b := range rules {
			is[i] = append(is[i], Variant(three(), a, b))
		}
	}
	for i := range rules {
		if !is[i][i] {
			t.Fatalf("%v is no variant of itself", rules[i])
		}
		for j := range rules {
			if is[i][j] != is[j][i] {
				t.Fatalf("%v and %v: one way alone", rules[i], rules[j])
			}
			for k := range rules {
				if is[i][j] && is[j][k] && !is[i][k] {
					t.Fatalf("%v, %v and %v: not the first and the last", rules[i], rules[j], rules[k])
				}
			}
		}
	}
}

func TestVariantIsAnEquivalenceOfDrawnRules(t *testing.T) { // P5.4
	r := random(5)
	for range 300 {
		a := rule(r.term(1+r.below(30)), r.term(1+r.below(30)))
		b := r.renamed(a)
		c := r.renamed(b)
		for _, x := range []api.Rule{a, b, c} {
			for _, y := range []api.Rule{a, b, c} {
				if !Variant(all(), x, y) {
					t.Fatalf("Variant(%v, %v): false", x, y)
				}
			}
		}
	}
}

// TestVariantsMatchEachOther holds the two calls together: variants' sides match one another, either way round.
func TestVariantsMatchEachOther(t *testing.T) { // P5.1, P5.2
	terms := smallTerms(5, 2)
	for _, a := range terms {
		for _, b := range terms {
			_, there := Match(three(), a, b)
			_, back := Match(three(), b, a)
			if want := Variant(three(), rule(a, row(0)), rule(b, row(0))); want != (there && back) {
				t.Fatalf("%v and %v: variants %v, matched %v, %v", a, b, want, there, back)
			}
		}
	}
}
