package norm

import (
	"slices"
	"testing"

	"lodestone/api"
	"lodestone/walk"
)

// TestManySteps has paths of more steps than a walk, or a proof, may have.
func TestManySteps(t *testing.T) { // P16.2
	c := counts()
	n := built(t, c.s, c.l)
	for _, s := range row(0, 1, 10, 11, 12, 15) { // of 3 * 2^s - 2 steps: 98302 at last
		becomes(t, n, slices.Concat(row(3), tower(s+1, 0)), 0)
	}
	becomes(t, n, slices.Concat(times(300, 1), row(3), tower(11, 0)), tower(301, 0)...)
	o := sorting()
	n = built(t, o.s, o.l)
	for _, x := range [][2]int{{64, 64}, {63, 65}, {17, 241}, {100, 100}} { // of 4096 steps, one less, one more, 10000
		becomes(t, n, slices.Concat(times(x[0], 1), times(x[1], 2), row(0)), slices.Concat(times(x[1], 2), times(x[0], 1), row(0))...)
	}
	a := ackermann()
	n = built(t, a.s, a.l)
	becomes(t, n, slices.Concat(row(2), tower(4, 0), tower(5, 0)), tower(126, 0)...) // of 10307 steps
}

// TestTooBigBehindManySteps: a path that becomes too big only behind more steps than a walk may have is told all the same; one that comes to just MaxNodes nodes there has its end.
func TestTooBigBehindManySteps(t *testing.T) { // P16.2
	c := counts()
	// when g's second argument has become zero, so many s stand in its place
	c.s.Sig = append(c.s.Sig, sym("g", 2))
	c.s.Rules = append(c.s.Rules, rule(row(4, -1, 0), tower(401, -1)))
	n := built(t, c.s, paths([2]int{3, 2}, [2]int{4, 1}))
	late := slices.Concat(row(4, -3, 3), tower(12, 0)) // behind 6142 steps
	becomes(t, n, slices.Concat(times(111, 1), late), tower(512, -3)...)
	stays(t, n, slices.Concat(times(112, 1), late), api.ErrTooBig)
}

// TestLongPathsAsWalk goes long paths in walks, one behind the other.
func TestLongPathsAsWalk(t *testing.T) { // P16.2, P16.4
	c, a := counts(), ackermann()
	for _, x := range []struct {
		c certified
		u []int
	}{
		{c, slices.Concat(row(2, 3), tower(12, 0), row(3), tower(12, 0))},
		{a, slices.Concat(row(2), tower(4, 0), tower(5, 0))},
	} {
		end, walks := x.u, 0
		for {
			w, e := walk.Walk(x.c.s, end, api.MaxPath)
			if e != api.OK {
				t.Fatalf("Walk(%v): %v", end, e)
			}
			walks++
			end = w.End
			if w.Normal {
				break
			}
		}
		if walks < 3 {
			t.Errorf("%v: only %d walks", x.u, walks)
		}
		becomes(t, built(t, x.c.s, x.c.l), x.u, end...)
	}
}
