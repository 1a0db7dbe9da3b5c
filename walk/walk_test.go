package walk

import (
	"math"
	"slices"
	"testing"

	"lodestone/api"
)

func TestExamples(t *testing.T) { // P9.1, P9.2
	u, path := row(2, 1, 0, 1, 0), steps(redex(0, 1), redex(1, 0))
	walks(t, sums(), u, 9, api.Walk{Steps: path, End: row(1, 1, 0), Normal: true})
	walks(t, sums(), u, 1, api.Walk{Steps: path[:1], End: row(1, 2, 0, 1, 0)})
	walks(t, sums(), u, 0, api.Walk{End: u})
	stays(t, sums(), u, -1, api.ErrArg)
	stays(t, sums(), u, 4097, api.ErrArg)
	stays(t, sums(), row(2, 0), 9, api.ErrTermShort)
	leads(t, sums(), u, path, 1, 1, 0)
	stops(t, sums(), u, steps(redex(0, 0)), api.ErrStepNone, 0)
}

// TestInnermostFromTheLeft: what stands below goes ahead of what stands above, the left ahead of the right, and the first rule ahead of others.
func TestInnermostFromTheLeft(t *testing.T) { // P9.1
	// plus(plus(zero, zero), plus(zero, plus(zero, zero)))
	u := row(2, 2, 0, 0, 2, 0, 2, 0, 0)
	walks(t, sums(), u, 9, api.Walk{
		Steps:  steps(redex(1, 0), redex(4, 0), redex(2, 0), redex(0, 0)),
		End:    row(0),
		Normal: true,
	})
	// the outer step would drop what goes on for ever: the inner one is taken all the same
	drop := over(rule(row(2, -1, -2), row(0)), rule(row(1, -1), row(1, -1)))
	walks(t, drop, row(2, 0, 1, 0), 3, api.Walk{Steps: steps(redex(2, 1), redex(2, 1), redex(2, 1)), End: row(2, 0, 1, 0)})
	// two rules at one place
	two := over(rule(row(1, 1, -1), row(-1)), rule(row(1, -1), row(2, -1, -1)), rule(row(1, 0), row(0)))
	walks(t, two, row(1, 0), 9, api.Walk{Steps: steps(redex(0, 1)), End: row(2, 0, 0), Normal: true})
	walks(t, two, row(1, 1, 0), 9, api.Walk{Steps: steps(redex(1, 1), redex(0, 1)), End: row(2, 2, 0, 0, 2, 0, 0), Normal: true})
	// what a step makes is rewritten ahead of what stands above and to the right
	walks(t, sums(), row(2, 2, 1, 0, 0, 2, 0, 0), 2, api.Walk{Steps: steps(redex(1, 1), redex(2, 0)), End: row(2, 1, 0, 2, 0, 0)})
}

// walksAsPlain holds Walk against the plain reading, and tells that one.
func walksAsPlain(t *testing.T, s api.System, u []int, most int) (api.Walk, api.Errno) {
	t.Helper()
	want, e := plainWalk(s, u, most)
	if e == api.OK {
		walks(t, s, u, most, want)
	} else {
		stays(t, s, u, most, e)
	}
	return want, e
}

func TestSmallTerms(t *testing.T) { // P9.1
	for _, s := range smallSystems() {
		for _, u := range smallTerms(5, 2) {
			for most := range 6 {
				walksAsPlain(t, s, u, most)
			}
		}
	}
}

func TestDrawnTerms(t *testing.T) { // P9.1
	r := random(1)
	ended, cut, still, tooBig := 0, 0, 0, 0
	for range 1000 {
		s := r.system()
		u, most := r.subject(s), r.below(12)
		if r.below(20) == 0 {
			most = 150 // so many that a path may become too big
		}
		switch w, e := walksAsPlain(t, s, u, most); {
		case e != api.OK:
			tooBig++
		case len(w.Steps) == 0:
			still++
		case w.Normal:
			ended++
		default:
			cut++
		}
	}
	if ended < 50 || cut < 50 || still < 10 || tooBig < 3 {
		t.Errorf("only %d paths that end, %d cut off, %d without steps, %d too big", ended, cut, still, tooBig)
	}
}

func TestNormalFormToBeginWith(t *testing.T) { // P9.1
	for _, most := range row(0, 1, 2, api.MaxPath) {
		for _, u := range [][]int{{0}, {-1}, {-api.MaxVar}, {1, 1, 0}, {2, -1, 0}, {2, 2, -1, 0, 1, 0}} {
			walks(t, sums(), u, most, api.Walk{End: u, Normal: true})
		}
		// without rules each term is one
		walks(t, over(), row(2, 0, 0), most, api.Walk{End: row(2, 0, 0), Normal: true})
		walks(t, api.System{}, row(-1), most, api.Walk{End: row(-1), Normal: true})
	}
}

// TestJustMost: a path that has just as many steps as may be, one less, and one more.
func TestJustMost(t *testing.T) { // P9.1
	s, u := sorting(), word(2, 3)
	whole := steps(redex(1, 0), redex(2, 0), redex(3, 0), redex(0, 0), redex(1, 0), redex(2, 0))
	for _, most := range row(6, 7, 8, 100, api.MaxPath-1, api.MaxPath) {
		walks(t, s, u, most, api.Walk{Steps: whole, End: sorted(2, 3), Normal: true})
	}
	walks(t, s, u, 5, api.Walk{Steps: whole[:5], End: row(2, 2, 1, 2, 1, 0)})
	walks(t, s, u, 1, api.Walk{Steps: whole[:1], End: row(1, 2, 1, 2, 2, 0)})
	walks(t, s, u, 0, api.Walk{End: u})
}

func TestMostThatMayNotBe(t *testing.T) { // P9.1
	for _, most := range row(math.MinInt, -api.MaxPath, -2, -1, api.MaxPath+1, api.MaxPath+2, 1<<32, math.MaxInt) {
		for _, u := range [][]int{{0}, {-1}, {2, 1, 0, 1, 0}, tower(512, 0)} {
			stays(t, sums(), u, most, api.ErrArg)
		}
	}
}

// TestJustMaxPath has paths of MaxPath steps, of one less and of one more.
func TestJustMaxPath(t *testing.T) { // P9.1
	for _, x := range []struct{ a, b int }{{63, 65}, {64, 64}, {17, 241}} {
		w, e := Walk(sorting(), word(x.a, x.b), api.MaxPath)
		has := x.a * x.b
		if e != api.OK || len(w.Steps) != min(has, api.MaxPath) || w.Normal != (has <= api.MaxPath) || slices.Equal(w.End, sorted(x.a, x.b)) != w.Normal {
			t.Errorf("a path of %d steps: %d, %v, %v", has, len(w.Steps), w.Normal, e)
		}
	}
	w, e := Walk(sorting(), word(64, 64), api.MaxPath-1)
	if e != api.OK || len(w.Steps) != api.MaxPath-1 || w.Normal {
		t.Errorf("a path that is cut off: %d, %v, %v", len(w.Steps), w.Normal, e)
	}
}

// TestWithoutEnd has paths that stay where they are, that go in a circle, and that change all the time.
func TestWithoutEnd(t *testing.T) { // P9.1, R1
	still := over(rule(row(1, -1), row(1, -1)))
	for _, most := range row(1, 2, api.MaxPath) {
		walks(t, still, row(2, 1, 0, 1, 0), most, api.Walk{Steps: slices.Repeat(steps(redex(1, 0)), most), End: row(2, 1, 0, 1, 0)})
	}
	circle := over(rule(row(2, -1, -2), row(2, -2, -1)))
	for _, most := range row(1, 2, 3, api.MaxPath-1, api.MaxPath) {
		end := row(1, 2, 0, -1)
		if most%2 == 1 {
			end = row(1, 2, -1, 0)
		}
		walks(t, circle, row(1, 2, 0, -1), most, api.Walk{Steps: slices.Repeat(steps(redex(1, 0)), most), End: end})
	}
	// a(x) -> b(x), b(x) -> a(x)
	turn := letters(rule(row(1, -1), row(2, -1)), rule(row(2, -1), row(1, -1)))
	walks(t, turn, row(1, 1, 0), 3, api.Walk{Steps: steps(redex(1, 0), redex(1, 1), redex(1, 0)), End: row(1, 2, 0)})
	walks(t, turn, row(1, 1, 0), api.MaxPath, api.Walk{Steps: slices.Repeat(steps(redex(1, 0), redex(1, 1)), api.MaxPath/2), End: row(1, 1, 0)})
}

// TestGreatestSystem has all symbols and all rules that may be: the last rule counts.
func TestGreatestSystem(t *testing.T) { // P9.1, P9.2
	s := api.System{Sig: many(api.MaxSymbols)}
	for i := range api.MaxRules {
		next := row((i/3*3 + 3) % 63)
		if i == 63 {
			next = row(63)
		}
		s.Rules = append(s.Rules, rule(partAt(s.Sig, row(i, -api.MaxVar, -1), 0), next))
	}
	walks(t, s, row(61, 60), 3, api.Walk{Steps: steps(redex(1, 60), redex(1, 0), redex(1, 3)), End: row(61, 6)})
	walks(t, s, row(61, 63), 2, api.Walk{Steps: steps(redex(1, 63), redex(1, 63)), End: row(61, 63)})
	leads(t, s, row(61, 63), steps(redex(1, 63), redex(0, 61)), 0)
	stops(t, s, row(61, 63), steps(redex(1, 63), redex(0, 64)), api.ErrArg, 1)
	wide := api.System{Sig: all(), Rules: []api.Rule{rule(row(8, 0, -2, -3, -4, -5, -6, -7, -8), row(8, -8, -7, -6, -5, -4, -3, -2, 0))}}
	walks(t, wide, row(1, 8, 0, -1, 0, -2, 0, -3, 1, 0, -4), 9, api.Walk{Steps: steps(redex(1, 0)), End: row(1, 8, -4, 1, 0, -3, 0, -2, 0, -1, 0), Normal: true})
}
