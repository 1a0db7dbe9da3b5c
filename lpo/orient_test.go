package lpo

import (
	"testing"

	"lodestone/api"
)

func TestOrientExamples(t *testing.T) { // P11.2
	p := closed(t, 3, pair(2, 1))
	turns(t, three(), p, rule(row(2, -1, -2), row(2, -2, -1)), 0)
	turns(t, three(), p, rule(row(1, -1), row(2, -1, -1)), -1)
	turns(t, three(), p, rule(row(2, 0, -2), row(-2)), 1)
	turns(t, three(), p, rule(row(2, 1, -1, -2), row(1, 2, -1, -2)), 1)
	turns(t, three(), p, rule(row(1, 2, -1, -2), row(2, 1, -1, -2)), -1)
	turns(t, three(), closed(t, 3), rule(row(2, 1, -1, -2), row(1, 2, -1, -2)), 0)
}

// TestNeitherSide: rules whose sides no precedence tells apart, and such as another precedence would.
func TestNeitherSide(t *testing.T) { // P11.2
	for _, l := range ordersOfThree() {
		p := closed(t, 3, l...)
		neither(t, three(), p, row(-1), row(-1))
		neither(t, three(), p, row(-1), row(-2))
		neither(t, three(), p, row(0), row(0))
		neither(t, three(), p, row(2, -1, -2), row(2, -2, -1))
		neither(t, three(), p, row(1, -1), row(1, -2))
		neither(t, three(), p, row(2, -1, 1, -2), row(2, 1, -2, -1))
	}
	neither(t, three(), closed(t, 3, pair(2, 1)), row(1, -1), row(0))
	oneWay(t, three(), closed(t, 3, pair(1, 0)), row(1, -1), row(0))
	neither(t, three(), closed(t, 3, pair(0, 1)), row(1, -1), row(0))
}

// TestOrientIsGreater holds Orient against the plain reading of Greater, both ways round, and that there are rules of each kind.
func TestOrientIsGreater(t *testing.T) { // P11.2
	r := random(5)
	count := map[int]int{}
	for range 40 {
		p := closed(t, 8, r.order(8, 40)...)
		plain := newReading(mixed(), p)
		terms := r.pool(t, 12, r.below(4))
		for _, s := range terms {
			for _, u := range terms {
				want := 0
				if plain.greater(s, u) {
					want = 1
				} else if plain.greater(u, s) {
					want = -1
				}
				turns(t, mixed(), p, api.Rule{L: s, R: u}, want)
				count[want]++
			}
		}
	}
	for _, n := range []int{-1, 0, 1} {
		if count[n] < 500 {
			t.Errorf("only %d of %d", count[n], n)
		}
	}
}
