package norm

import (
	"slices"
	"testing"

	"lodestone/api"
)

// growing has what grows a term, and what makes it small: a(x) -> b(x, x), b(x, x) -> x, drop(x) -> end, d(x) -> p(x, x), l(x) -> s(s(x)).
func growing(t *testing.T) *Norm {
	sig := []api.Symbol{sym("end", 0), sym("s", 1), sym("a", 1), sym("b", 2), sym("drop", 1), sym("d", 1), sym("p", 2), sym("l", 1)}
	l := []api.Rule{
		rule(row(2, -1), row(3, -1, -1)),
		rule(row(3, -1, -1), row(-1)),
		rule(row(4, -1), row(0)),
		rule(row(5, -1), row(6, -1, -1)),
		rule(row(7, -1), row(1, 1, -1)),
	}
	return built(t, api.System{Sig: sig, Rules: l}, paths([2]int{2, 3}, [2]int{4, 0}, [2]int{5, 6}, [2]int{7, 1}))
}

// TestBeginsTooBig: a term of just MaxNodes nodes is gone from, one of one more is not: no matter whether it is a normal form, and what it would become.
func TestBeginsTooBig(t *testing.T) { // P16.2
	n := built(t, sums(), plusAboveS())
	becomes(t, n, tower(512, 0), tower(512, 0)...)
	becomes(t, n, tower(512, -1), tower(512, -1)...)
	stays(t, n, tower(513, 0), api.ErrTooBig)
	stays(t, n, tower(513, -1), api.ErrTooBig)
	stays(t, n, tower(1<<16, 0), api.ErrTooBig)
	becomes(t, n, slices.Concat(row(2, 0), tower(510, 0)), tower(510, 0)...)
	stays(t, n, slices.Concat(row(2, 0), tower(511, 0)), api.ErrTooBig)
	none := built(t, over(), paths())
	becomes(t, none, tower(512, 0), tower(512, 0)...)
	stays(t, none, tower(513, 0), api.ErrTooBig)
	g := growing(t)
	becomes(t, g, slices.Concat(row(4), tower(511, 0)), 0)
	stays(t, g, slices.Concat(row(4), tower(512, 0)), api.ErrTooBig)
}

// TestTooBigWithin: a term within the path counts, though it becomes small again.
func TestTooBigWithin(t *testing.T) { // P16.2
	g := growing(t)
	for n := 1; n <= 255; n++ {
		// around b of two towers of n nodes so many s as make 512 nodes in all
		around := 512 - 1 - 2*n
		u := slices.Concat(times(around, 1), row(2), tower(n, 0))
		becomes(t, g, u, tower(around+n, 0)...)
		u = slices.Concat(row(1), u)
		stays(t, g, u, api.ErrTooBig)
	}
	stays(t, g, slices.Concat(row(2), tower(256, 0)), api.ErrTooBig)
	becomes(t, g, slices.Concat(row(2, 2, 2), tower(254, 0)), tower(254, 0)...)
	// l makes one node more each time, the innermost first; drop takes all away then
	becomes(t, g, slices.Concat(row(4), times(200, 7), tower(111, 0)), 0)
	stays(t, g, slices.Concat(row(4), times(200, 7), tower(112, 0)), api.ErrTooBig)
}

// TestTooBigAtTheEnd: the normal form may have just MaxNodes nodes.
func TestTooBigAtTheEnd(t *testing.T) { // P16.2
	g := growing(t)
	for n := 1; n <= 255; n++ {
		around := 512 - 1 - 2*n
		u := slices.Concat(times(around, 1), row(5), tower(n, 0))
		end := slices.Concat(times(around, 1), row(6), tower(n, 0), tower(n, 0))
		becomes(t, g, u, end...)
		stays(t, g, slices.Concat(row(1), u), api.ErrTooBig)
	}
	becomes(t, g, slices.Concat(times(250, 7), tower(12, 0)), tower(512, 0)...)
	stays(t, g, slices.Concat(times(250, 7), tower(13, 0)), api.ErrTooBig)
}

// TestWhatIsGoneFirst: whether the path is too big hangs on which redex goes first: the left one ahead of the right one, the inner one ahead of the outer one.
func TestWhatIsGoneFirst(t *testing.T) { // P16.2
	g := growing(t)
	drop, grow := slices.Concat(row(4), tower(150, 0)), slices.Concat(row(2), tower(200, 0))
	becomes(t, g, slices.Concat(row(6), drop, grow), slices.Concat(row(6, 0), tower(200, 0))...)
	stays(t, g, slices.Concat(row(6), grow, drop), api.ErrTooBig)
	becomes(t, g, slices.Concat(row(6, 6), drop, grow, row(4, 4, 0)), slices.Concat(row(6, 6, 0), tower(200, 0), row(0))...)
	becomes(t, g, slices.Concat(row(4), grow), 0)
	stays(t, g, slices.Concat(row(4, 2), tower(256, 0)), api.ErrTooBig)
	becomes(t, g, slices.Concat(row(2, 4), tower(500, 0)), 0)
	// by the first rule it is too big, by the second one it would not be
	s := api.System{Sig: []api.Symbol{sym("end", 0), sym("s", 1), sym("h", 1)}, Rules: []api.Rule{rule(row(2, -1), append(times(300, 1), -1)), rule(row(2, -1), row(-1))}}
	n := built(t, s, paths([2]int{2, 1}))
	stays(t, n, slices.Concat(row(2), tower(213, 0)), api.ErrTooBig)
	becomes(t, n, slices.Concat(row(2), tower(212, 0)), tower(512, 0)...)
	slices.Reverse(s.Rules)
	becomes(t, built(t, s, paths([2]int{2, 1})), slices.Concat(row(2), tower(213, 0)), tower(213, 0)...)
}

// TestGreatestRules has sides of just MaxNodes nodes.
func TestGreatestRules(t *testing.T) { // P16.1, P16.2
	// s 1 of s .. of zero; t 2
	s := api.System{Sig: []api.Symbol{sym("zero", 0), sym("s", 1), sym("t", 1)}, Rules: []api.Rule{
		rule(slices.Concat(times(511, 2), row(-1)), slices.Concat(times(511, 1), row(-1))),
		rule(slices.Concat(times(509, 2), row(0)), row(0)),
	}}
	n := built(t, s, paths([2]int{2, 1}, [2]int{2, 0}))
	becomes(t, n, slices.Concat(times(511, 2), row(-9)), slices.Concat(times(511, 1), row(-9))...)
	becomes(t, n, slices.Concat(times(511, 2), row(0)), 2, 2, 0)
	becomes(t, n, slices.Concat(times(510, 2), row(-9)), slices.Concat(times(510, 2), row(-9))...)
	stays(t, n, slices.Concat(times(512, 2), row(-9)), api.ErrTooBig)
}
