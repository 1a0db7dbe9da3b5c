package norm

import (
	"slices"
	"testing"

	"lodestone/api"
	"lodestone/walk"
)

func TestExamples(t *testing.T) { // P16.2
	n := built(t, sums(), plusAboveS())
	becomes(t, n, row(2, 1, 0, 1, 0), 1, 1, 0)
	becomes(t, n, row(2, 1, -1, 0), 1, 2, -1, 0)
	becomes(t, n, row(0), 0)
	stays(t, n, row(2, 0), api.ErrTermShort)
	d := doubles()
	n = built(t, d.s, d.l)
	end, e := n.Normal(slices.Concat(row(3), tower(8, 0)))
	if e != api.OK || len(end) != 383 {
		t.Errorf("d of seven s: %d nodes, %v", len(end), e)
	}
	stays(t, n, slices.Concat(row(3), tower(9, 0)), api.ErrTooBig)
	stays(t, n, slices.Concat(row(3), tower(41, 0)), api.ErrTooBig)
}

// TestByAnyCertificate: what a term becomes hangs on the rules, not on what says that they end.
func TestByAnyCertificate(t *testing.T) { // P16.2
	for _, l := range [][]api.Node{plusAboveS(), worth(strict()...), pairs(1, byPaths([2]int{2, 1})), pairs(1, byWorth(weak()...))} {
		n := built(t, sums(), l)
		becomes(t, n, slices.Concat(row(2), tower(20, 0), tower(30, 0)), tower(49, 0)...)
		becomes(t, n, row(1, 2, 2, 0, 1, 0, 2, -1, 2, 0, -2), 1, 1, 2, -1, -2)
	}
}

func TestReckoning(t *testing.T) { // P16.2
	a := ackermann()
	n := built(t, a.s, a.l)
	for x, line := range [][]int{{1, 2, 3, 4}, {2, 3, 4, 5}, {3, 5, 7, 9}, {5, 13, 29, 61}} {
		for y, want := range line {
			becomes(t, n, slices.Concat(row(2), tower(x+1, 0), tower(y+1, 0)), tower(want+1, 0)...)
		}
	}
	q := quotients()
	n = built(t, q.s, q.l)
	for x := range 12 {
		for y := 1; y < 5; y++ {
			becomes(t, n, slices.Concat(row(3), tower(x*y+1, 0), tower(y+1, 0)), tower(x+1, 0)...)
		}
	}
	becomes(t, n, row(3, 0, 0), 3, 0, 0)
}

// TestLeftmostOfTheInnermost has rules whose results tell which was taken first.
func TestLeftmostOfTheInnermost(t *testing.T) { // P16.2
	// s(s(zero)) -> zero is never come to: s(zero) within it goes ahead
	inner := built(t, over(rule(row(1, 1, 0), row(0)), rule(row(1, 0), row(2, 0, 0))), paths([2]int{1, 2}))
	becomes(t, inner, row(1, 1, 0), 1, 2, 0, 0)
	becomes(t, inner, row(1, 1, 1, 0), 1, 1, 2, 0, 0)
	// plus(x, x) -> x, and s(zero) -> zero: both arguments go ahead of the whole
	like := built(t, over(rule(row(2, -1, -1), row(-1)), rule(row(2, 1, -1, -2), row(-2)), rule(row(1, 0), row(0))), paths())
	becomes(t, like, row(2, 1, 0, 0), 0)
	becomes(t, like, row(2, 1, 0, 1, -1), 2, 0, 1, -1)
	becomes(t, like, row(2, 1, -1, 1, -1), 1, -1)
	becomes(t, like, row(2, 1, -1, 1, 0), 0)
	// two rules at one place: the first one
	one, two := rule(row(1, -1), row(2, -1, -1)), rule(row(1, -1), row(0))
	sAbove := paths([2]int{1, 2}, [2]int{1, 0})
	becomes(t, built(t, over(one, two), sAbove), row(1, -7), 2, -7, -7)
	becomes(t, built(t, over(two, one), sAbove), row(1, -7), 0)
	becomes(t, built(t, over(one, one, two), sAbove), row(1, 1, 0), 2, 2, 0, 0, 2, 0, 0)
	// what a step makes is rewritten, though the rule that made it can't do that
	becomes(t, built(t, over(rule(row(2, 0, -1), row(1, -1)), rule(row(1, 0), row(0))), paths([2]int{2, 1})), row(2, 0, 2, 0, 2, 0, 0), 0)
}

// TestNothingToDo: terms without a redex stay as they are; without rules all do.
func TestNothingToDo(t *testing.T) { // P16.2
	n := built(t, sums(), plusAboveS())
	for _, u := range [][]int{{0}, {-1}, {-api.MaxVar}, {1, 1, 0}, {2, -1, 0}, {2, 2, -1, 0, 1, 0}, {1, -5}, tower(512, -api.MaxVar)} {
		becomes(t, n, u, u...)
	}
	none := built(t, over(), paths())
	for _, u := range smallTerms(5, 2) {
		becomes(t, none, u, u...)
	}
	bare := built(t, api.System{}, paths())
	becomes(t, bare, row(-1), -1)
	becomes(t, bare, row(-api.MaxVar), -api.MaxVar)
	stays(t, bare, row(0), api.ErrTermCode)
}

// TestVariables: a term's variables are its own, whatever numbers those of the rules have.
func TestVariables(t *testing.T) { // P16.2, P16.4
	far := -api.MaxVar
	n := built(t, over(rule(row(2, 0, far), row(far)), rule(row(2, 1, -2, -1), row(1, 2, -2, -1))), plusAboveS())
	becomes(t, n, row(2, 1, -1, -2), 1, 2, -1, -2)
	becomes(t, n, row(2, 1, -2, -1), 1, 2, -2, -1)
	becomes(t, n, row(2, 0, 2, 1, far, -1), 1, 2, far, -1)
	becomes(t, n, row(2, 1, 1, 0, far), 1, 1, far)
	becomes(t, n, row(2, far, 2, 0, far), 2, far, far)
}

// TestSmallTerms holds all small terms against the plain reading.
func TestSmallTerms(t *testing.T) { // P16.2
	moved, big := 0, 0
	for _, c := range smallSystems() {
		n := built(t, c.s, c.l)
		for _, u := range smallTerms(6, 2) {
			path, whole := plainPath(c.s, u, 1000)
			last := path[len(path)-1]
			switch {
			case !whole:
				t.Fatalf("%v: %v goes on and on", c.s, u)
			case len(last) > api.MaxNodes:
				stays(t, n, u, api.ErrTooBig)
				big++
			default:
				becomes(t, n, u, last...)
			}
			if len(path) > 1 {
				moved++
			}
		}
	}
	if moved < 3000 || big > 0 {
		t.Errorf("only %d were rewritten, or %d are too big", moved, big)
	}
}

// eachSubject hands out drawn systems, and those that are written out, with terms drawn for them. How long their paths are is not known.
func eachSubject(t *testing.T, seed random, many int, hold func(n *Norm, s api.System, u []int)) {
	t.Helper()
	r := seed
	for range many {
		s, l := r.system()
		n := built(t, s, l)
		for range 5 {
			hold(n, s, r.subject(s))
		}
	}
	for _, c := range allSystems() {
		n := built(t, c.s, c.l)
		for range many / 10 {
			hold(n, c.s, r.subject(c.s))
		}
	}
}

// isShort tells whether a path ends, or becomes too big, within so many steps.
func isShort(s api.System, u []int, most int) bool {
	w, e := walk.Walk(s, u, most)
	return e != api.OK || w.Normal
}

// TestDrawnTerms holds drawn terms against the plain reading, and against the one that goes from within.
func TestDrawnTerms(t *testing.T) { // P16.2, P16.4, P16.5
	still, moved, long, big := 0, 0, 0, 0
	eachSubject(t, 2, 1000, func(n *Norm, s api.System, u []int) {
		const most = 60
		if !isShort(s, u, most) {
			return
		}
		path, whole := plainPath(s, u, most)
		last := path[len(path)-1]
		within := fromWithin{s: s, most: most}
		end := within.down(u, 0)
		if !whole || within.biggest > api.MaxNodes != (len(last) > api.MaxNodes) {
			t.Fatalf("%v: the path of %v: %v, and %v", s, u, path, within)
		}
		switch {
		case len(last) > api.MaxNodes:
			big++
			stays(t, n, u, api.ErrTooBig)
			return
		case len(path) == 1:
			still++
		case len(path) > 10:
			long++
		default:
			moved++
		}
		becomes(t, n, u, last...)
		becomes(t, n, u, end...)
	})
	if still < 1000 || moved < 3000 || long < 200 || big < 10 {
		t.Errorf("only %d normal forms, %d short paths, %d long ones, %d that are too big", still, moved, long, big)
	}
}

// TestAsWalk holds Normal against walks: where one is cut off, the next one goes on from its end.
func TestAsWalk(t *testing.T) { // P16.2, P16.4
	ended, goesOn, big := 0, 0, 0
	eachSubject(t, 3, 1000, func(n *Norm, s api.System, u []int) {
		end := u
		for range 10 {
			w, e := walk.Walk(s, end, 40)
			switch {
			case e == api.ErrTooBig:
				big++
				stays(t, n, u, e)
				return
			case e != api.OK:
				t.Fatalf("Walk(%v, %v): %v", s, end, e)
			case w.Normal:
				ended++
				becomes(t, n, u, w.End...)
				return
			}
			goesOn++
			end = w.End
		}
	})
	if ended < 5000 || goesOn < 50 || big < 10 {
		t.Errorf("only %d ends, %d walks that go on, %d that are too big", ended, goesOn, big)
	}
}
