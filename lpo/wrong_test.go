package lpo

import (
	"math"
	"slices"
	"testing"

	"lodestone/api"
	"lodestone/prec"
)

func TestWrongSignature(t *testing.T) { // P11.1, P11.2, R3
	p := closed(t, 3, line(2, 1, 0)...)
	for _, sig := range badSigs() {
		wants(t, sig, p, row(2, 1, -1, -2), row(1, 2, -1, -2), false)
		wants(t, sig, p, row(1, 0), row(0), false)
		turns(t, sig, p, rule(row(1, 0), row(0)), 0)
		turns(t, sig, p, rule(row(0), row(1, 0)), 0)
	}
	wants(t, nil, p, row(0), row(0), false)
	wants(t, nil, p, row(-1), row(-2), false)
	wants(t, many(128), closed(t, 128, pair(127, 0)), row(127, -1), row(0), true)
	wants(t, many(129), closed(t, 128, pair(127, 0)), row(127, -1), row(0), false)
}

// TestNoTerms lays a row that is no term on either side, beside terms that are as great or as small as may be.
func TestNoTerms(t *testing.T) { // P11.1, P11.2, R3
	p := closed(t, 3, line(2, 1, 0)...)
	great, small := row(2, 2, 2, -1, -2, -3, -3), row(0)
	for _, bad := range badRows() {
		for _, good := range [][]int{great, small, row(-1), tower(512, 0), bad} {
			neither(t, three(), p, good, bad)
		}
	}
	oneWay(t, three(), p, great, small)
}

// TestOtherPrecedences: of symbols that a precedence has not, none is above another one; those that it has beyond the signature are no matter, but for what follows of their pairs.
func TestOtherPrecedences(t *testing.T) { // P11.1
	s, u := row(2, 1, -1, -2), row(1, 2, -1, -2)
	for n := range 3 {
		neither(t, three(), closed(t, n), s, u)
		oneWay(t, three(), closed(t, n), row(1, 0), row(0))
		oneWay(t, three(), closed(t, n), row(2, 1, 0, 0), row(2, 0, 1, 0))
	}
	neither(t, three(), closed(t, 2, pair(1, 0)), s, u)
	oneWay(t, three(), closed(t, 2, pair(1, 0)), row(1, -1), row(0))
	neither(t, three(), closed(t, 2, pair(1, 0)), row(2, -1, -1), row(0))
	for _, n := range []int{3, 4, 9, 64, 128} {
		oneWay(t, three(), closed(t, n, pair(2, 1)), s, u)
		neither(t, three(), closed(t, n), s, u)
	}
	oneWay(t, three(), closed(t, 128, pair(2, 127), pair(127, 1)), s, u)
	neither(t, three(), closed(t, 128, pair(2, 127), pair(126, 1)), s, u)
	oneWay(t, many(128), closed(t, 128, pair(127, 126)), row(127, -1), row(126))
	neither(t, many(128), closed(t, 126), row(127, -1), row(126))
}

func TestHowManyNodes(t *testing.T) { // P11.1, P11.2
	p := closed(t, 3, pair(2, 1))
	for _, x := range []struct {
		nodes int
		fits  bool
	}{{api.MaxNodes - 1, true}, {api.MaxNodes, true}, {api.MaxNodes + 1, false}, {2 * api.MaxNodes, false}} {
		great := tower(x.nodes, -1)
		hold := neither
		if x.fits {
			hold = oneWay
		}
		hold(t, three(), p, great, row(-1))
		hold(t, three(), p, great, row(1, -1))
		hold(t, three(), p, row(2, -1, -2), great)
		hold(t, three(), p, slices.Concat(row(2), tower(x.nodes-2, -1), row(0)), row(1, -1))
	}
	oneWay(t, three(), p, comb(255, row(1, -1)), tower(512, -1))
	neither(t, three(), p, comb(255, row(1, -1)), tower(513, -1))
	neither(t, three(), p, comb(255, row(1, 1, -1)), tower(512, -1))
	neither(t, three(), p, comb(255, row(1, 1, -1)), tower(513, -1))
}

// TestAllArguments holds that no call panics at any arguments, and that what is no term is never greater nor lesser.
func TestAllArguments(t *testing.T) { // R1
	sigs := [][]api.Symbol{nil, three(), all(), many(128), make([]api.Symbol, 3), {sym("f", -5)}, {sym("f", math.MaxInt)}}
	rows := [][]int{nil, {}, {0}, {-1}, {1, 1}, {2, 0, -1}, {2, -1, -1}, {math.MaxInt}, {math.MinInt}, {8, 8, 8}, {127, 0}, tower(512, -1), tower(600, -1), make([]int, 100000)}
	precs := []*prec.Prec{closed(t, 0), closed(t, 3, line(2, 1, 0)...), closed(t, 128, line(upTo(128)...)...)}
	for _, sig := range sigs {
		for _, p := range precs {
			for _, s := range rows {
				for _, u := range rows {
					if Greater(sig, p, s, u) && (len(s) == 0 || len(u) == 0 || len(s) > 512 || len(u) > 512) {
						t.Errorf("Greater(%v, %v): true", s, u)
					}
					if Orient(sig, p, rule(s, u)) != -Orient(sig, p, rule(u, s)) {
						t.Errorf("Orient(%v, %v), and turned round", s, u)
					}
				}
			}
		}
	}
}
