package cert

import (
	"slices"
	"testing"

	"lodestone/api"
	"lodestone/step"
)

// subject draws a term over mixed in which left sides of a system stand, with small terms for their variables.
func (r *random) subject(s api.System) []int {
	t := r.term(1+r.below(9), 5, row(0, 1))
	for range r.below(3) {
		l := s.Rules[r.below(len(s.Rules))].L
		at := r.below(len(t))
		if t[at] == 0 || t[at] < 0 {
			t = slices.Concat(t[:at], r.bound(l), t[at+1:])
		}
	}
	return t
}

// bound has a small term for each variable.
func (r *random) bound(t []int) []int {
	var u []int
	binds := map[int][]int{}
	for _, code := range t {
		if code >= 0 {
			u = append(u, code)
			continue
		}
		if binds[code] == nil {
			binds[code] = r.term(1+r.below(4), 5, row(0, 1))
		}
		u = append(u, binds[code]...)
	}
	return u
}

// allSteps are what a term becomes by one step, each way, as far as that is not too big.
func allSteps(s api.System, t []int) [][]int {
	var l [][]int
	for _, r := range step.All(s, t) {
		if u, e := step.Do(s, t, r); e == api.OK {
			l = append(l, u)
		}
	}
	return l
}

// comesRound tells whether a row of steps from a term comes to one that it had, as far as the first few terms tell, that are not great.
func comesRound(s api.System, t []int) bool {
	const open, done = 1, 2
	known := map[string]int{}
	var from func(t []int) bool
	from = func(t []int) bool {
		if len(t) > 60 || len(known) > 60 {
			return false
		}
		name := string(codesOf(t))
		if known[name] != 0 {
			return known[name] == open
		}
		known[name] = open
		for _, u := range allSteps(s, t) {
			if from(u) {
				return true
			}
		}
		known[name] = done
		return false
	}
	return from(t)
}

// codesOf writes a row of small codes as bytes.
func codesOf(t []int) []byte {
	var b []byte
	for _, code := range t {
		b = append(b, byte(code))
	}
	return b
}

// TestNothingComesRound: under an accepted certificate no row of steps comes to a term that it had; of the drawn systems without one some do.
func TestNothingComesRound(t *testing.T) { // P15.2
	r := random(3)
	accepted, steps, round := 0, 0, 0
	for range 700 {
		s := r.system()
		l := r.any(s)
		v := Check(s, l)
		if v == api.Accept {
			accepted++
		}
		for range 15 {
			u := r.subject(s)
			switch {
			case !comesRound(s, u):
			case v == api.Accept:
				t.Fatalf("%v comes round in %v, though %v is accepted", u, s, l)
			default:
				round++
			}
			steps += len(allSteps(s, u))
		}
	}
	if accepted < 200 || steps < 5000 || round < 100 {
		t.Errorf("%d accepted, %d steps, %d come round", accepted, steps, round)
	}
}

// TestNothingSmallComesRound goes through all small rules, and all small terms.
func TestNothingSmallComesRound(t *testing.T) { // P15.2
	subjects := smallTerms(4, 1)
	certificates := smallCertificates()
	accepted, round := 0, 0
	for _, a := range smallRules(4, 3) {
		s := over(a)
		is := slices.ContainsFunc(certificates, func(l []api.Node) bool { return Check(s, l) == api.Accept })
		comes := slices.ContainsFunc(subjects, func(u []int) bool { return comesRound(s, u) })
		if is && comes {
			t.Errorf("%v comes round, though it has a certificate", a)
		}
		if is {
			accepted++
		}
		if comes {
			round++
		}
	}
	if accepted < 200 || round < 20 {
		t.Errorf("%d accepted, %d come round", accepted, round)
	}
}

// endless are systems from some term of which paths go on for ever.
func endless() []api.System {
	x, y := -1, -2
	var l []api.System
	for _, rules := range [][]api.Rule{
		{rule(row(3, x), row(3, x))},
		{rule(row(3, x), row(3, 1, x))},
		{rule(row(3, x), row(1, 3, x))},
		{rule(row(3, x), row(3, 3, x))},
		{rule(row(3, 1, x), row(3, 3, 1, x))},
		{rule(row(3, 0), row(2, 0, 3, 0))},
		{rule(row(0), row(1, 0))},
		{rule(row(4, x, y), row(4, y, x))},
		{rule(row(4, x, 1, y), row(4, 1, x, y)), rule(row(4, 1, x, y), row(4, x, 1, y))},
		{rule(row(3, 1, x), row(3, x)), rule(row(3, x), row(4, x, x)), rule(row(4, x, 0), row(3, 1, x))},
		{rule(row(3, 1, x), row(4, x, 1, x)), rule(row(4, 0, x), row(3, x))},
		{rule(row(3, 0), row(0)), rule(row(0), row(3, 0))},
		{rule(row(4, 1, x, x), row(4, 3, 0, 3, 0)), rule(row(3, 0), row(1, 3, 0)), rule(row(3, x), row(1, x))},
	} {
		l = append(l, api.System{Sig: mixed(), Rules: rules})
	}
	// f(zero, one, x) -> f(x, x, x), h(x, y) -> x, h(x, y) -> y: neither part alone goes on for ever
	l = append(l, api.System{Sig: []api.Symbol{sym("zero", 0), sym("one", 0), sym("h", 2), sym("f", 3)}, Rules: []api.Rule{
		rule(row(3, 0, 1, x), row(3, x, x, x)), rule(row(2, x, y), row(x)), rule(row(2, x, y), row(y)),
	}})
	return l
}

// TestEndless: no certificate is accepted of a system whose paths do not all end.
func TestEndless(t *testing.T) { // P15.2
	r := random(4)
	for _, s := range endless() {
		for range 60 {
			l := r.any(s)
			if Check(s, l) == api.Accept {
				t.Fatalf("%v has no end, and %v is accepted", s, l)
			}
		}
		for range 300 {
			if node := r.single(s); Check(s, nodes(node)) == api.Accept {
				t.Fatalf("%v has no end, and %v is accepted", s, node)
			}
		}
	}
}
