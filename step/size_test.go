package step

import (
	"slices"
	"testing"

	"lodestone/api"
)

// doubling has rules that make a term greater, smaller, and neither.
func doubling() api.System {
	return over(rule(row(1, -1), row(2, -1, -1)), rule(row(2, -1, -2), row(-1)), rule(row(0), tower(512, 0)))
}

func TestJustMaxNodesAndOneMore(t *testing.T) { // P8.3
	// s of n nodes in all becomes 1 + 2 (n - 1)
	for n := 254; n < 260; n++ {
		u := tower(n, -1)
		want := slices.Concat(row(2), u[1:], u[1:])
		if len(want) <= api.MaxNodes {
			becomes(t, doubling(), u, redex(0, 0), want...)
			continue
		}
		fails(t, doubling(), u, redex(0, 0), api.ErrTooBig)
	}
	// just 512, by what stands above
	becomes(t, doubling(), tower(257, 0), redex(1, 0), slices.Concat(row(1, 2), tower(255, 0), tower(255, 0))...)
	fails(t, doubling(), slices.Concat(row(1), tower(257, 0)), redex(2, 0), api.ErrTooBig)
	// by what stands beside, to the left and to the right
	becomes(t, doubling(), slices.Concat(row(2, 1, 0), tower(508, 0)), redex(1, 0), slices.Concat(row(2, 2, 0, 0), tower(508, 0))...)
	fails(t, doubling(), slices.Concat(row(2, 1, 0), tower(509, 0)), redex(1, 0), api.ErrTooBig)
	becomes(t, doubling(), slices.Concat(row(2), tower(508, 0), row(1, 0)), redex(509, 0), slices.Concat(row(2), tower(508, 0), row(2, 0, 0))...)
	fails(t, doubling(), slices.Concat(row(2), tower(509, 0), row(1, 0)), redex(510, 0), api.ErrTooBig)
}

// TestGreatRightSide: a right side of just MaxNodes nodes has room nowhere but at the root.
func TestGreatRightSide(t *testing.T) { // P8.3
	becomes(t, doubling(), row(0), redex(0, 2), tower(512, 0)...)
	fails(t, doubling(), row(1, 0), redex(1, 2), api.ErrTooBig)
	s := over(rule(row(1, -1), tower(512, -1)))
	becomes(t, s, row(1, 0), redex(0, 0), tower(512, 0)...)
	fails(t, s, row(1, 1, 0), redex(0, 0), api.ErrTooBig)
	fails(t, s, row(1, 1, 0), redex(1, 0), api.ErrTooBig)
}

// TestGreatTerm: a term that is too big itself is looked at all the same; only what it becomes is measured.
func TestGreatTerm(t *testing.T) { // P8.1, P8.2, P8.3
	u := slices.Concat(row(2), tower(600, 0), row(2, 0, -1))
	s := over(rule(row(2, 0, -1), row(-1)), rule(row(2, -1, -2), row(-2)), rule(row(2, -1, -2), row(-1)), rule(row(2, -1, -2), row(0)))
	finds(t, s, u, redex(0, 1), redex(0, 2), redex(0, 3), redex(601, 0), redex(601, 1), redex(601, 2), redex(601, 3))
	comesTo(t, s, u, redex(601, 0))
	becomes(t, s, u, redex(0, 1), 2, 0, -1)
	fails(t, s, u, redex(0, 2), api.ErrTooBig)
	becomes(t, s, u, redex(0, 3), 0)
	fails(t, s, u, redex(601, 0), api.ErrTooBig)
	fails(t, s, u, redex(0, 0), api.ErrStepNone)
	fails(t, s, u, redex(5, 1), api.ErrStepNone)
	fails(t, s, u, redex(5, 4), api.ErrArg)
	fails(t, s, u, redex(604, 0), api.ErrTermPlace)
	fails(t, s, u, redex(604, 4), api.ErrTermPlace)
	// from 513 and 514 nodes down to 512
	fall := over(rule(row(1, 0), row(0)), rule(row(1, 1, 0), row(0)))
	becomes(t, fall, tower(513, 0), redex(511, 0), tower(512, 0)...)
	fails(t, fall, tower(514, 0), redex(512, 0), api.ErrTooBig)
	becomes(t, fall, tower(514, 0), redex(511, 1), tower(512, 0)...)
	fails(t, fall, tower(515, 0), redex(512, 1), api.ErrTooBig)
}

// TestGreatBinds: what a variable is bound to may be too big, as long as the right side drops it; twice alike, too.
func TestGreatBinds(t *testing.T) { // P8.1, P8.3
	s := over(rule(row(2, -1, -1), row(1, 0)), rule(row(2, -1, 1, -2), row(1, -2)))
	u := slices.Concat(row(2), tower(700, 0), tower(700, 0))
	finds(t, s, u, redex(0, 0), redex(0, 1))
	becomes(t, s, u, redex(0, 0), 1, 0)
	fails(t, s, u, redex(0, 1), api.ErrTooBig)
	unlike := slices.Concat(row(2), tower(700, 0), tower(700, -1))
	finds(t, s, unlike, redex(0, 1))
	fails(t, s, unlike, redex(0, 0), api.ErrStepNone)
}

func TestGreatLeftSide(t *testing.T) { // P8.1, P8.2, P8.3
	s := over(rule(tower(512, -1), row(-1)), rule(tower(512, 0), row(0)))
	finds(t, s, tower(511, 0))
	finds(t, s, tower(511, -1))
	finds(t, s, tower(512, -1), redex(0, 0))
	finds(t, s, tower(514, 0), redex(0, 0), redex(1, 0), redex(2, 0), redex(2, 1))
	comesTo(t, s, tower(514, 0), redex(2, 0))
	becomes(t, s, tower(514, 0), redex(0, 0), 1, 1, 0)
	becomes(t, s, tower(514, 0), redex(2, 1), 1, 1, 0)
}

// TestDeepTerm is nested as deep as the document's bound allows.
func TestDeepTerm(t *testing.T) { // P8.1, P8.2, P8.3, R1
	deep := tower(1<<16, 0)
	finds(t, sums(), deep)
	comesToNone(t, sums(), deep)
	low := slices.Concat(deep[:1<<16-1], row(2, 0, -1))
	finds(t, sums(), low, redex(1<<16-1, 0))
	comesTo(t, sums(), low, redex(1<<16-1, 0))
	fails(t, sums(), low, redex(1<<16-1, 0), api.ErrTooBig)
	drop := over(rule(row(1, -1), row(0)))
	becomes(t, drop, deep, redex(0, 0), 0)
	comesTo(t, drop, deep, redex(1<<16-2, 0))
}
