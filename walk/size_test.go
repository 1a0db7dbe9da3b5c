package walk

import (
	"slices"
	"testing"

	"lodestone/api"
)

// doubles is the document's last example: z, s, p, d, and d(s(x)) -> p(d(x), d(x)).
func doubles() api.System {
	return api.System{Sig: []api.Symbol{sym("z", 0), sym("s", 1), sym("p", 2), sym("d", 1)}, Rules: []api.Rule{rule(row(3, 1, -1), row(2, 3, -1, 3, -1))}}
}

func TestDoubles(t *testing.T) { // P9.1
	stays(t, doubles(), slices.Concat(row(3), tower(41, 0)), api.MaxPath, api.ErrTooBig)
	// d of two s: p(p(d(z), d(z)), p(d(z), d(z)))
	walks(t, doubles(), row(3, 1, 1, 0), 9, api.Walk{Steps: steps(redex(0, 0), redex(1, 0), redex(6, 0)), End: row(2, 2, 3, 0, 3, 0, 2, 3, 0, 3, 0), Normal: true})
}

// TestBeginsTooBig: a term of just MaxNodes nodes is gone from, one of one more is not: no matter whether it is a normal form, and what it would become.
func TestBeginsTooBig(t *testing.T) { // P9.1, P9.2
	fall := over(rule(row(1, 0), row(0)))
	for _, most := range row(0, 1, 9, api.MaxPath) {
		walks(t, sums(), tower(512, 0), most, api.Walk{End: tower(512, 0), Normal: true})
		for _, s := range []api.System{sums(), over(), fall} {
			stays(t, s, tower(513, 0), most, api.ErrTooBig)
			stays(t, s, tower(600, 0), most, api.ErrTooBig)
		}
	}
	walks(t, fall, tower(512, 0), 0, api.Walk{End: tower(512, 0)})
	walks(t, fall, tower(512, 0), 2, api.Walk{Steps: steps(redex(510, 0), redex(509, 0)), End: tower(510, 0)})
	leads(t, fall, tower(512, 0), steps(redex(510, 0)), tower(511, 0)...)
	for _, l := range [][]api.Redex{nil, {redex(511, 0)}, {redex(0, 0)}, {redex(-1, -1)}, {redex(0, 9)}} {
		stops(t, fall, tower(513, 0), l, api.ErrTooBig, 0)
	}
}

// TestNumberAheadOfSize: where the number is wrong besides, that is told.
func TestNumberAheadOfSize(t *testing.T) { // P9.1, R2
	stays(t, sums(), tower(513, 0), -1, api.ErrArg)
	stays(t, sums(), tower(513, 0), api.MaxPath+1, api.ErrArg)
}

// TestBecomesTooBig: a path may come to a term of just MaxNodes nodes, not to one of one more; what lies behind most steps is not come to.
func TestBecomesTooBig(t *testing.T) { // P9.1
	// zero becomes s(zero), for ever
	grow := over(rule(row(0), row(1, 0)))
	for n := range 5 {
		walks(t, grow, tower(512-n, 0), n, api.Walk{Steps: growing(512-n, n), End: tower(512, 0)})
		for _, more := range row(n+1, n+2, api.MaxPath) {
			stays(t, grow, tower(512-n, 0), more, api.ErrTooBig)
		}
	}
	walks(t, grow, row(0), 511, api.Walk{Steps: growing(1, 511), End: tower(512, 0)})
	stays(t, grow, row(0), 512, api.ErrTooBig)
}

// growing are so many steps from a tower of n nodes on.
func growing(n, many int) []api.Redex {
	var l []api.Redex
	for i := range many {
		l = append(l, redex(n-1+i, 0))
	}
	return l
}

// TestTooBigOnTheWay: a path that comes by a term that is too big has no end, though it would become small again.
func TestTooBigOnTheWay(t *testing.T) { // P9.1, P9.2
	// a(x) -> b(b(x)), and drop(x) -> end: what has grown is dropped at last
	s := api.System{Sig: []api.Symbol{sym("end", 0), sym("a", 1), sym("b", 1), sym("drop", 1)}, Rules: []api.Rule{rule(row(1, -1), row(2, 2, -1)), rule(row(3, -1), row(0))}}
	fits := slices.Concat(row(3), word(200, 110)) // 512 nodes behind 200 steps
	path := slices.Repeat(steps(redex(0, 0)), 200)
	for i := range path {
		path[i] = redex(200-i, 0)
	}
	walks(t, s, fits, 300, api.Walk{Steps: append(slices.Clone(path), redex(0, 1)), End: row(0), Normal: true})
	walks(t, s, fits, 200, api.Walk{Steps: path, End: slices.Concat(row(3), sorted(0, 510))})
	leads(t, s, fits, append(slices.Clone(path), redex(0, 1)), 0)
	more := slices.Concat(row(3), word(200, 111))
	walks(t, s, more, 199, api.Walk{Steps: path[:199], End: slices.Concat(row(3, 1), sorted(0, 509))})
	for _, most := range row(200, 201, 202, api.MaxPath) {
		stays(t, s, more, most, api.ErrTooBig)
	}
	stops(t, s, more, append(slices.Clone(path), redex(0, 1)), api.ErrTooBig, 199)
	leads(t, s, more, append(slices.Clone(path[:199]), redex(0, 1)), 0)
}

// TestAlongTooBig: the number is that of the redex that makes the term too big.
func TestAlongTooBig(t *testing.T) { // P9.2
	s := over(rule(row(0), row(1, 0)), rule(row(0), tower(512, 0)), rule(row(1, -1), row(2, -1, -1)))
	leads(t, s, row(0), steps(redex(0, 1)), tower(512, 0)...)
	stops(t, s, row(0), steps(redex(0, 1), redex(511, 0)), api.ErrTooBig, 1)
	stops(t, s, row(0), steps(redex(0, 0), redex(1, 1)), api.ErrTooBig, 1)
	stops(t, s, row(0), steps(redex(0, 0), redex(1, 0), redex(2, 1), redex(0, 0)), api.ErrTooBig, 2)
	leads(t, s, tower(510, 0), steps(redex(509, 0), redex(510, 0)), tower(512, 0)...)
	stops(t, s, tower(510, 0), steps(redex(509, 0), redex(510, 0), redex(511, 0), redex(0, 0)), api.ErrTooBig, 2)
	stops(t, s, tower(510, 0), steps(redex(0, 2)), api.ErrTooBig, 0)
	stops(t, s, tower(1, 0), steps(redex(0, 1), redex(0, 2)), api.ErrTooBig, 1)
}

// TestDeepTerm is nested as deep as the document's bound allows.
func TestDeepTerm(t *testing.T) { // P9.1, P9.2, R1
	deep := tower(1<<16, 0)
	stays(t, sums(), deep, 9, api.ErrTooBig)
	stays(t, sums(), deep, -9, api.ErrArg)
	stops(t, sums(), deep, steps(redex(0, 0)), api.ErrTooBig, 0)
	stays(t, sums(), tower(1<<16, 1), 9, api.ErrTermShort)
	stops(t, sums(), tower(1<<16, 1), nil, api.ErrTermShort, 0)
}
