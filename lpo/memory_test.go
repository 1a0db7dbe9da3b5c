package lpo

import (
	"slices"
	"testing"

	"lodestone/api"
)

// inRoom is a copy of a row, with codes behind its length that nobody may read or change.
func inRoom(u []int) []int { return append(slices.Clone(u), 0, -7)[:len(u)] }

func roomKept(u, was []int) bool {
	return slices.Equal(u[:len(was)+2], append(slices.Clone(was), 0, -7))
}

func TestArgumentsStay(t *testing.T) { // R5
	r := random(15)
	for range 300 {
		s := r.term(1+r.below(30), 3)
		u := r.changed(t, s, 3)
		if r.below(4) == 0 {
			u = u[:r.below(len(u))]
		}
		sig := append(mixed(), sym("1", 99))[:8]
		sr, ur := inRoom(s), inRoom(u)
		p := closed(t, 8, r.order(8, 40)...)
		was := *p
		Greater(sig, p, sr, ur)
		Greater(sig, p, ur, sr)
		Orient(sig, p, api.Rule{L: sr, R: ur})
		if !roomKept(sr, s) || !roomKept(ur, u) || !slices.Equal(sig[:9], append(mixed(), sym("1", 99))) || *p != was {
			t.Fatalf("an argument was changed: %v, %v, %v", sr, ur, sig[:9])
		}
	}
}

func TestRoomIsNotRead(t *testing.T) { // R5
	sig := append(three(), sym("1", 99))[:3]
	p := closed(t, 3, pair(2, 1))
	oneWay(t, sig, p, inRoom(row(2, 1, -1, -2)), inRoom(row(1, 2, -1, -2)))
	oneWay(t, sig, p, inRoom(row(1, 0)), inRoom(row(0)))
	// the room would make each of these a term
	neither(t, sig, p, inRoom(row(1)), inRoom(row(0)))
	neither(t, sig, p, inRoom(row(2, 0)), inRoom(row(0)))
	neither(t, sig, p, inRoom(row(2)), inRoom(row(0)))
}

// TestOneRowTwice: the same memory may be handed in as both terms, or pieces of one row that overlap.
func TestOneRowTwice(t *testing.T) { // P11.1, R5
	p := closed(t, 3)
	whole := tower(60, 0)
	for at := 1; at < 60; at++ {
		oneWay(t, three(), p, whole, whole[at:])
		neither(t, three(), p, whole[at:], whole[at:])
	}
}

// TestNothingIsKept: what is known of two places in one call is not known in the next one, where other terms stand there, or another precedence is handed in.
func TestNothingIsKept(t *testing.T) { // R6
	over, none := closed(t, 3, pair(2, 1)), closed(t, 3)
	s, u := row(2, 1, -1, -2), row(1, 2, -1, -2)
	for range 3 {
		oneWay(t, three(), over, s, u)
		neither(t, three(), none, s, u)
		oneWay(t, three(), over, row(2, 0, -2), row(-2))
		neither(t, three(), over, row(2, 0, -2), row(-3))
	}
	u[0], u[1] = 2, 1
	neither(t, three(), over, s, u)
}
