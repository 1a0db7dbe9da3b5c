package interp

import (
	"math/big"
	"slices"
	"testing"

	"lodestone/api"
	"lodestone/poly"
	"lodestone/step"
	"lodestone/subst"
	"lodestone/system"
	"lodestone/term"
)

// laidIn is a symbol's polynomial with those of some terms laid in.
func laidIn(t *testing.T, sig []api.Symbol, l []api.Interp, code int, args [][]int) ([]api.Mono, api.Errno) {
	t.Helper()
	var polynomials [][]api.Mono
	for _, u := range args {
		p, e := Of(sig, l, u)
		if e != api.OK {
			return nil, e
		}
		polynomials = append(polynomials, p)
	}
	return poly.Compose(reading{sig: sig, l: l}.polynomial(code), polynomials)
}

func TestPartByPart(t *testing.T) { // P12.5
	r := random(6)
	told := map[api.Errno]int{}
	for i := range 4000 {
		l := r.interp(mixed())
		if i%2 == 0 {
			l = r.strict(mixed())
		}
		u := r.term(2+r.below(25), 0)
		p, e := Of(mixed(), l, u)
		want, f := laidIn(t, mixed(), l, u[0], argsOf(mixed(), u))
		told[e]++
		if e != f || !same(p, want) {
			t.Fatalf("%v: Of(%v): %v, %v; part by part %v, %v", l, u, p, e, want, f)
		}
	}
	if told[api.OK] < 1000 || told[api.ErrTooBig] < 5 || len(told) > 2 {
		t.Errorf("too seldom: %v", told)
	}
}

// TestOtherNumbers: it is the same polynomial, or too big, if the variables have other numbers.
func TestOtherNumbers(t *testing.T) { // P12.5
	r := random(7)
	told := map[api.Errno]int{}
	for i := range 3000 {
		l := r.interp(mixed())
		if i%2 == 0 {
			l = r.strict(mixed())
		}
		u := r.term(1+r.below(25), 5)
		p, e := Of(mixed(), l, u)
		told[e]++
		for range 3 {
			v := r.renamed(u)
			if q, f := Of(mixed(), l, v); f != e || !same(p, q) {
				t.Fatalf("%v: Of(%v): %v, %v; Of(%v): %v, %v", l, u, p, e, v, q, f)
			}
		}
	}
	if told[api.OK] < 1000 || told[api.ErrTooBig] < 5 {
		t.Errorf("too seldom: %v", told)
	}
	for _, n := range []int{512, 513} {
		p, e := Of(three(), second(), rake(unlike(0, n)...))
		q, f := Of(three(), second(), rake(unlike(api.MaxVar-n, n)...))
		if e != f || !same(p, q) || (e == api.OK) != (n == 512) {
			t.Errorf("%d variables: %v, %v", n, e, f)
		}
	}
}

// worthOf is what a term's polynomial is worth, and whether nothing was too big.
func worthOf(t *testing.T, sig []api.Symbol, l []api.Interp, u []int, at map[int]*big.Int) (*big.Int, bool) {
	t.Helper()
	p, e := Of(sig, l, u)
	if e == api.ErrTooBig {
		return nil, false
	}
	v, f := poly.Value(p, inOrder(u, at))
	if e != api.OK || f != api.OK && f != api.ErrTooBig {
		t.Fatalf("%v: %v, %v", u, e, f)
	}
	return bigOf(v), f == api.OK
}

func TestWorth(t *testing.T) { // P12.6
	r := random(8)
	held := 0
	for i := range 4000 {
		l := r.interp(mixed())
		if i%2 == 0 {
			l = r.strict(mixed())
		}
		u := r.term(1+r.below(25), 4)
		at := r.values(u)
		v, ok := worthOf(t, mixed(), l, u, at)
		if !ok {
			continue
		}
		held++
		if want := (reading{sig: mixed(), l: l}).worth(u, at); v.Cmp(want) != 0 {
			t.Fatalf("%v: %v is worth %v, and %v from the leaves", l, u, v, want)
		}
	}
	if held < 2000 {
		t.Errorf("only %d held", held)
	}
}

// TestWorthOfNumbers: with what sums and products are, terms of numbers are worth what is reckoned by hand.
func TestWorthOfNumbers(t *testing.T) { // P12.6
	sig := []api.Symbol{sym("one", 0), sym("s", 1), sym("plus", 2), sym("times", 2)}
	l := given(only(1), sumOf(1, 1), sumOf(2, 0), productOf(2))
	u := row(3, 2, -1, 1, 0, 2, -2, -1) // (x + 2) (y + x)
	gives(t, sig, l, u, mono(2, 0, 1), mono(2, 1), mono(1, 1, 1), mono(1, 2))
	at := map[int]*big.Int{-1: big.NewInt(5), -2: big.NewInt(11)}
	if v, ok := worthOf(t, sig, l, u, at); !ok || v.Int64() != 7*16 {
		t.Errorf("%v, %v", v, ok)
	}
}

// fallers draws rules of which Falls answers at least so much, each with a left side that is no variable and has the right side's variables.
func (r *random) fallers(l []api.Interp, n, least int) []api.Rule {
	var rules []api.Rule
	for range 3000 {
		if len(rules) == n {
			break
		}
		x := rule(r.term(2+r.below(4), 3), r.term(1+r.below(4), 3))
		if e, _ := system.Check(api.System{Sig: mixed(), Rules: []api.Rule{x}}); e != api.OK {
			continue
		}
		if k, e := Falls(mixed(), l, x); e == api.OK && k >= least {
			rules = append(rules, x)
		}
	}
	return rules
}

// reducible draws a term in which the left side of one of some rules stands, with drawn terms for its variables.
func (r *random) reducible(t *testing.T, rules []api.Rule) []int {
	t.Helper()
	var binds []api.Bind
	for v := range 3 {
		binds = append(binds, api.Bind{Var: v, T: r.term(1+r.below(4), 4)})
	}
	u, e := subst.Apply(mixed(), binds, rules[r.below(len(rules))].L)
	if e != api.OK {
		t.Fatal(e)
	}
	around := r.term(1+r.below(6), 4)
	u, e = term.Replace(mixed(), around, r.below(len(around)), u)
	if e != api.OK {
		t.Fatal(e)
	}
	return u
}

// steps does all steps of a term, and holds that what it is worth falls by at least so much with each; it answers how many steps were held. A variable that a step drops may be worth anything.
func (r *random) steps(t *testing.T, s api.System, l []api.Interp, u []int, least int64) int {
	t.Helper()
	held := 0
	for _, x := range step.All(s, u) {
		v, e := step.Do(s, u, x)
		if e != api.OK {
			t.Fatal(e)
		}
		for range 3 {
			at := r.values(u)
			before, ok := worthOf(t, s.Sig, l, u, at)
			behind, fits := worthOf(t, s.Sig, l, v, at)
			if !ok || !fits {
				continue
			}
			held++
			if new(big.Int).Sub(before, behind).Cmp(big.NewInt(least)) < 0 {
				t.Fatalf("%v: %v is worth %v, and %v %v, at %v", l, u, before, v, behind, at)
			}
		}
	}
	return held
}

func TestStepsFall(t *testing.T) { // P12.7
	r := random(9)
	held := 0
	for range 150 {
		l := r.strict(mixed())
		if !Strict(mixed(), l) {
			t.Fatalf("%v is not strict", l)
		}
		s := api.System{Sig: mixed(), Rules: r.fallers(l, 4, 2)}
		for range 10 {
			if len(s.Rules) > 0 {
				held += r.steps(t, s, l, r.reducible(t, s.Rules), 1)
			}
		}
	}
	if held < 3000 {
		t.Errorf("only %d steps", held)
	}
}

// TestStepsDoNotRise: with rules of which some do not fall, and polynomials that need not rise with each argument, nothing is worth more behind a step.
func TestStepsDoNotRise(t *testing.T) { // P12.7
	r := random(10)
	held := 0
	for range 150 {
		for _, l := range [][]api.Interp{r.strict(mixed()), r.interp(mixed())} {
			s := api.System{Sig: mixed(), Rules: r.fallers(l, 4, 1)}
			for range 10 {
				if len(s.Rules) > 0 {
					held += r.steps(t, s, l, r.reducible(t, s.Rules), 0)
				}
			}
		}
	}
	if held < 6000 {
		t.Errorf("only %d steps", held)
	}
}

// TestWhyStrict: of what is not strict a step at an argument need not fall, though the rule does; and of a rule that does not fall, a step need not.
func TestWhyStrict(t *testing.T) { // P12.2, P12.4, P12.7
	l := but(usual(), 2, mono(1, 0, 1))
	falls(t, three(), l, rule(row(1, -1), row(-1)), 2)
	isStrict(t, three(), l, false)
	before, _ := Of(three(), l, row(2, 1, 0, 0))
	behind, _ := Of(three(), l, row(2, 0, 0))
	if !same(before, behind) {
		t.Errorf("%v, %v", before, behind)
	}
	isStrict(t, three(), usual(), true)
	swap := api.System{Sig: three(), Rules: []api.Rule{rule(row(2, -1, -2), row(2, -2, -1))}}
	falls(t, three(), usual(), swap.Rules[0], 0)
	u, _ := step.Do(swap, row(2, 0, 1, 0), api.Redex{})
	before, _ = Of(three(), usual(), row(2, 0, 1, 0))
	behind, _ = Of(three(), usual(), u)
	if !slices.Equal(u, row(2, 1, 0, 0)) || !poly.Greater(behind, before) {
		t.Errorf("%v, %v", before, behind)
	}
}

// TestSumsFall: each step of the document's rules falls, on the way from a term to its normal form.
func TestSumsFall(t *testing.T) { // P12.7
	s := api.System{Sig: three(), Rules: []api.Rule{rule(row(2, 0, -1), row(-1)), rule(row(2, 1, -1, -2), row(1, 2, -1, -2))}}
	for n := range 12 {
		u := slices.Concat(row(2), tower(n+1, 0), row(2), tower(n+1, 0), row(1, -1))
		steps := 0
		for x, ok := step.First(s, u); ok; x, ok = step.First(s, u) {
			v, _ := step.Do(s, u, x)
			before, _ := Of(three(), usual(), u)
			behind, _ := Of(three(), usual(), v)
			if !poly.Greater(before, behind) {
				t.Fatalf("%v: %v, %v: %v", u, before, v, behind)
			}
			u, steps = v, steps+1
		}
		if steps != 2*n+2 || !slices.Equal(u, tower(2*n+2, -1)) {
			t.Errorf("%d steps to %v", steps, u)
		}
	}
}
