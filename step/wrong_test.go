package step

import (
	"math"
	"testing"

	"lodestone/api"
)

// someRedexes are such as may be one, have no node, or no rule.
func someRedexes() []api.Redex {
	return []api.Redex{redex(0, 0), redex(0, 1), redex(1, 0), redex(-1, 0), redex(0, -1), redex(99, 99)}
}

// nothing holds that nothing is told, and Do's error.
func nothing(t *testing.T, s api.System, u []int, want api.Errno) {
	t.Helper()
	finds(t, s, u)
	comesToNone(t, s, u)
	for _, r := range someRedexes() {
		fails(t, s, u, r, want)
	}
}

// TestWrongSystems: a system's error goes ahead of all else, whether the term is right (and would be rewritten) or not.
func TestWrongSystems(t *testing.T) { // P8.1, P8.2, P8.3, R2, R3
	for _, w := range wrongSystems() {
		for _, u := range [][]int{{2, 0, 0}, {2, 0, 2, 1, 0, 0}, {-1}, {1, 0}} {
			nothing(t, w.s, u, w.e)
		}
		for _, rows := range badRows() {
			for _, u := range rows {
				nothing(t, w.s, u, w.e)
			}
		}
	}
}

func TestWrongTerms(t *testing.T) { // P8.1, P8.2, P8.3, R2, R3
	for _, s := range smallSystems() {
		for e, rows := range badRows() {
			for _, u := range rows {
				nothing(t, s, u, e)
			}
		}
	}
}

// TestSomethingBehindARedex: a row that begins with a term, or has one in it, has its redexes only if it is a term itself.
func TestSomethingBehindARedex(t *testing.T) { // R3
	nothing(t, sums(), row(2, 0, 0, 0), api.ErrTermMore)
	nothing(t, sums(), row(2, 2, 0, 0), api.ErrTermShort)
	nothing(t, sums(), row(2, 2, 0, 0, 3), api.ErrTermCode)
	nothing(t, sums(), row(2, 2, 0, 0, -api.MaxVar-1), api.ErrTermCode)
	finds(t, sums(), row(2, 2, 0, 0, -api.MaxVar), redex(1, 0))
}

// TestAllArguments holds that no call panics at any arguments, that beside an error nothing is told, and that the three calls go together.
func TestAllArguments(t *testing.T) { // R1, R2
	sigs := [][]api.Symbol{nil, three(), all(), many(64), many(65), many(129), make([]api.Symbol, 3), {sym("f", -5)}, {sym("f", math.MaxInt)}, {sym("\xff", 0)}}
	rows := [][]int{nil, {}, {0}, {-1}, {1, 1}, {1, -1}, {2, 0, -1}, {math.MaxInt}, {math.MinInt}, {8, 8, 8}, tower(600, -1)}
	numbers := row(math.MinInt, -1, 0, 1, 599, 600, math.MaxInt)
	done := 0
	for _, sig := range sigs {
		for _, l := range rows {
			for _, r := range rows {
				for _, u := range rows {
					s := api.System{Sig: sig, Rules: []api.Rule{rule(l, r)}}
					done += together(t, s, u, numbers)
				}
			}
		}
		for _, u := range rows {
			together(t, api.System{Sig: sig}, u, numbers)
			together(t, api.System{Sig: sig, Rules: make([]api.Rule, 3)}, u, numbers)
			together(t, api.System{Sig: sig, Rules: make([]api.Rule, 1000)}, u, numbers)
		}
	}
	if done < 20 {
		t.Errorf("only %d terms were rewritten", done)
	}
}

// together tells how many times Do rewrote the term.
func together(t *testing.T, s api.System, u []int, numbers []int) int {
	t.Helper()
	l := All(s, u)
	if r, ok := First(s, u); ok != (len(l) > 0) || !ok && r != redex(0, 0) {
		t.Errorf("First(%v, %v): %v, %v, and All: %v", s, u, r, ok, l)
	}
	done := 0
	for _, at := range numbers {
		for _, i := range numbers {
			v, e := Do(s, u, redex(at, i))
			if e != api.OK && len(v) > 0 || e == api.OK && len(l) == 0 {
				t.Errorf("Do(%v, %v, %d, %d): %v, %v, and All: %v", s, u, at, i, v, e, l)
			}
			if e == api.OK {
				done++
			}
		}
	}
	return done
}
