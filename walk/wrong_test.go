package walk

import (
	"math"
	"testing"

	"lodestone/api"
)

// someRows are empty, good for the document's terms, and wrong.
func someRows() [][]api.Redex {
	return [][]api.Redex{nil, {}, {redex(0, 0)}, {redex(0, 1), redex(1, 0)}, {redex(-1, 0)}, {redex(0, -1)}, {redex(0, 0), redex(99, 99)}}
}

// nothing holds that nothing is told but the error: at numbers that may be, and at others. It ends a test at the first fault, for there would be very many of them.
func nothing(t *testing.T, s api.System, u []int, want api.Errno) {
	t.Helper()
	for _, most := range row(0, 1, 9, api.MaxPath, -1, api.MaxPath+1, math.MinInt, math.MaxInt) {
		stays(t, s, u, most, want)
	}
	for _, l := range someRows() {
		stops(t, s, u, l, want, 0)
	}
	if t.Failed() {
		t.FailNow()
	}
}

// TestWrongSystems: a system's error goes ahead of all else, whether the term is right (and would be rewritten), too big, or none.
func TestWrongSystems(t *testing.T) { // P9.1, P9.2, R2, R3
	for _, w := range wrongSystems() {
		for _, u := range [][]int{{2, 0, 0}, {2, 1, 0, 1, 0}, {-1}, {1, 0}, tower(512, 0), tower(513, 0)} {
			nothing(t, w.s, u, w.e)
		}
		for _, rows := range badRows() {
			for _, u := range rows {
				nothing(t, w.s, u, w.e)
			}
		}
	}
}

// TestWrongTerms: a row that is no term is told of ahead of a wrong number, of how big it is, and of redexes that can't be.
func TestWrongTerms(t *testing.T) { // P9.1, P9.2, R2, R3
	for _, s := range smallSystems() {
		for e, rows := range badRows() {
			for _, u := range rows {
				nothing(t, s, u, e)
			}
		}
	}
}

// TestWrongTermsThatBeginWell: a row that begins with a term, or has a redex in it, is no term for that.
func TestWrongTermsThatBeginWell(t *testing.T) { // R3
	nothing(t, sums(), row(2, 0, 0, 0), api.ErrTermMore)
	nothing(t, sums(), row(2, 2, 0, 0), api.ErrTermShort)
	nothing(t, sums(), row(2, 2, 0, 0, 3), api.ErrTermCode)
	nothing(t, sums(), row(2, 2, 0, 0, -api.MaxVar-1), api.ErrTermCode)
	walks(t, sums(), row(2, 2, 0, 0, -api.MaxVar), 9, api.Walk{Steps: steps(redex(1, 0), redex(0, 0)), End: row(-api.MaxVar), Normal: true})
}

// TestLaterRulesError: the number of a system's wrong rule is not told.
func TestLaterRulesError(t *testing.T) { // P9.2, R3
	s := over(append(sums().Rules, rule(row(0), row(-1)))...)
	stops(t, s, row(2, 0, 0), steps(redex(0, 0)), api.ErrSystemFree, 0)
	stops(t, s, row(2, 0), steps(redex(0, 0)), api.ErrSystemFree, 0)
	stays(t, s, row(2, 0), -1, api.ErrSystemFree)
}

// TestAllArguments holds that no call panics at any arguments, and that beside an error nothing is told.
func TestAllArguments(t *testing.T) { // R1, R2
	sigs := [][]api.Symbol{nil, three(), all(), many(64), many(65), many(129), make([]api.Symbol, 3), {sym("f", -5)}, {sym("f", math.MaxInt)}, {sym("\xff", 0)}}
	rows := [][]int{nil, {}, {0}, {-1}, {1, 1}, {1, -1}, {2, 0, -1}, {math.MaxInt}, {math.MinInt}, {8, 8, 8}, tower(512, -1), tower(600, -1)}
	gone := 0
	for _, sig := range sigs {
		var systems []api.System
		for _, l := range rows {
			for _, r := range rows {
				systems = append(systems, api.System{Sig: sig, Rules: []api.Rule{rule(l, r)}})
			}
		}
		systems = append(systems, api.System{Sig: sig}, api.System{Sig: sig, Rules: make([]api.Rule, 3)}, api.System{Sig: sig, Rules: make([]api.Rule, 1000)})
		for _, s := range systems {
			for _, u := range rows {
				gone += goes(t, s, u)
			}
		}
	}
	if gone < 50 {
		t.Errorf("only %d walks had steps", gone)
	}
}

// goes tells how many walks from a term had steps.
func goes(t *testing.T, s api.System, u []int) int {
	t.Helper()
	gone := 0
	for _, most := range row(math.MinInt, -1, 0, 1, 5, api.MaxPath+1, math.MaxInt) {
		w, e := Walk(s, u, most)
		if e != api.OK && (len(w.Steps) > 0 || len(w.End) > 0 || w.Normal) || e == api.OK && len(w.End) == 0 || len(w.Steps) > max(0, most) {
			t.Fatalf("Walk(%v, %v, %d): %v, %v", s, u, most, w, e)
		}
		if len(w.Steps) > 0 {
			gone++
		}
	}
	for _, l := range append(someRows(), []api.Redex{redex(math.MinInt, math.MinInt)}, []api.Redex{redex(math.MaxInt, math.MaxInt)}) {
		v, e, n := Along(s, u, l)
		if e != api.OK && len(v) > 0 || e == api.OK && (len(v) == 0 || n != 0) || n < 0 || n > 0 && n >= len(l) {
			t.Fatalf("Along(%v, %v, %v): %v, %v, %d", s, u, l, v, e, n)
		}
	}
	return gone
}
