package prec

import (
	"slices"
	"testing"

	"lodestone/api"
)

// roomy is a copy of pairs, with some behind its length that would be refused.
func roomy(l [][2]int) [][2]int {
	return append(slices.Clone(l), pair(0, 0), pair(-1, 500))[:len(l)]
}

func kept(l, was [][2]int) bool {
	return slices.Equal(l[:len(was)+2], append(slices.Clone(was), pair(0, 0), pair(-1, 500)))
}

func TestArgumentsStay(t *testing.T) { // R5
	r := random(12)
	for range 200 {
		n := r.size()
		was := r.order(n, 2*n)
		switch r.below(4) {
		case 0:
			was = append(was, pair(r.below(n), r.below(n)))
		case 1:
			was = append(was, pair(n, 0))
		}
		l := roomy(was)
		Close(n, l)
		Close(-1, l)
		if !kept(l, was) {
			t.Fatalf("Close(%d, %v) changed them", n, was)
		}
	}
}

func TestRoomIsNotRead(t *testing.T) { // R5
	eachOrder(13, func(n int, l [][2]int) { same(t, n, l, roomy(l)) })
	refuses(t, 2, roomy(line(0, 1, 0)), api.ErrPrecCycle)
	closes(t, 0, roomy(nil))
}

// TestPairsAreNotKept writes over pairs of which a precedence was made.
func TestPairsAreNotKept(t *testing.T) { // R5
	eachOrder(14, func(n int, l [][2]int) {
		mine := roomy(l)
		p := closes(t, n, mine)
		for i := range mine[:cap(mine)] {
			mine[:cap(mine)][i] = pair(0, n-1)
		}
		holds(t, p, plainAbove(n, l))
	})
}

// TestPrecedencesKnowNothingOfOneAnother: what is made or asked beside one changes nothing of it.
func TestPrecedencesKnowNothingOfOneAnother(t *testing.T) { // R5, R6
	up, down := line(upTo(128)...), line(downFrom(128)...)
	p := closes(t, 128, up)
	was := *p
	q := closes(t, 128, down)
	again := closes(t, 128, up)
	refuses(t, 128, slices.Concat(up, down), api.ErrPrecCycle)
	for f := range 128 {
		for g := range 128 {
			if p.Above(f, g) != (f < g) || q.Above(f, g) != (g < f) || p.Above(f, g) != (f < g) {
				t.Fatalf("%d and %d", f, g)
			}
		}
	}
	if p == again || *p != was || *again != was {
		t.Errorf("a precedence has changed, or was handed out twice")
	}
}
