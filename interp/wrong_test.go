package interp

import (
	"math"
	"testing"

	"lodestone/api"
)

// TestAllArguments holds that no call panics at any arguments, and that beside an error nothing else is told.
func TestAllArguments(t *testing.T) { // R1, R2
	sigs := [][]api.Symbol{nil, three(), all(), many(128), many(129), make([]api.Symbol, 3), {sym("f", -5)}, {sym("f", math.MaxInt)}, {sym("f", math.MinInt)}}
	lists := [][]api.Interp{nil, {}, usual(), sums(all()), sums(many(128)), make([]api.Interp, 3), {{Sym: math.MinInt}}, {{Sym: math.MaxInt}}, given(nil, nil, nil)}
	for _, x := range illOfTwo() {
		lists = append(lists, but(usual(), 2, x.p...), but(sums(all()), 8, x.p...))
	}
	rows := [][]int{nil, {}, {0}, {-1}, {1, 1}, {2, 0, -1}, {2, -1, -1}, {math.MaxInt}, {math.MinInt}, {8, 8, 8}, {127, 0}, tower(600, -1), make([]int, 10000), rake(unlike(0, 600)...)}
	for _, sig := range sigs {
		for _, l := range lists {
			e := Check(sig, l)
			if Strict(sig, l) && e != api.OK {
				t.Errorf("Strict(%v): true, %v", l, e)
			}
			for _, u := range rows {
				p, f := Of(sig, l, u)
				if f != api.OK && len(p) > 0 || e != api.OK && f != e {
					t.Errorf("Of(%v): %v, %v, %v", u, p, e, f)
				}
				for _, v := range rows {
					n, g := Falls(sig, l, rule(u, v))
					if n < 0 || n > 2 || g != api.OK && n != 0 || f != api.OK && f != api.ErrTooBig && f != g {
						t.Errorf("Falls(%v, %v): %d, %v, %v", u, v, n, f, g)
					}
				}
			}
		}
	}
}
