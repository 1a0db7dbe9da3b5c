package pairs

import (
	"slices"
	"testing"

	"lodestone/api"
)

func TestGraphExamples(t *testing.T) { // P13.4
	l, _ := Of(sums())
	follows(t, sums(), l, row(0))
	follows(t, sums(), nil)
	follows(t, sums(), []api.Rule{})
	follows(t, api.System{}, nil)
}

// TestGraphOfSeveral has pairs that may be followed by none, by some and by all.
func TestGraphOfSeveral(t *testing.T) { // P13.4
	l := rules(
		rule(row(5, 1, -1, -2), row(5, -1, -2)),
		rule(row(5, 0, -1), row(4, -1)),
		rule(row(4, 1, -1), row(4, 0)),
		rule(row(4, 2, 0, -1), row(5, 1, 0, 2, 0, 0)),
		rule(row(3), row(3)),
	)
	follows(t, sums(), l, row(0, 1), row(2, 3), nil, row(0), row(4))
	slices.Reverse(l)
	follows(t, sums(), l, row(0), row(4), nil, row(1, 2), row(3, 4))
}

// TestGraphOfAlikePairs: each has a number of its own.
func TestGraphOfAlikePairs(t *testing.T) { // P13.4
	p, q := rule(row(4, 1, -1), row(4, -1)), rule(row(4, 0), row(3))
	follows(t, sums(), rules(p, q, p, q, p), row(0, 1, 2, 3, 4), nil, row(0, 1, 2, 3, 4), nil, row(0, 1, 2, 3, 4))
}

// TestGraphOfOthers: pairs that are not the system's own, and such as may not stand there: a wrong left side is followed, but follows none, a wrong right one the other way round.
func TestGraphOfOthers(t *testing.T) { // P13.4
	good := rule(row(4, -1), row(4, -1))
	for _, wrong := range wrongSides() {
		follows(t, sums(), rules(rule(wrong, row(4, 0)), good, rule(row(4, 0), wrong), rule(wrong, wrong)), row(1, 2), row(1, 2), nil, nil)
	}
	follows(t, sums(), make([]api.Rule, 4), nil, nil, nil, nil)
}

// TestGraphOfMany: more than MaxPairs may be handed in.
func TestGraphOfMany(t *testing.T) { // P13.4
	const n = api.MaxPairs + 50
	var l []api.Rule
	var all []int
	for i := range n {
		l = append(l, rule(row(4, 1, -1-i), row(4, -1-i)))
		all = append(all, i)
	}
	follows(t, sums(), l, slices.Repeat([][]int{all}, n)...)
}

// TestGraphOfMaxPairs: just as many as Of answers.
func TestGraphOfMaxPairs(t *testing.T) { // P13.4
	s := over(deep(api.MaxPairs))
	l, e := Of(s)
	g := Graph(s, l)
	if e != api.OK || len(g) != api.MaxPairs {
		t.Fatalf("%d, %v", len(g), e)
	}
	for i := range g {
		if len(g[i]) != api.MaxPairs || !slices.IsSorted(g[i]) {
			t.Errorf("%d: %v", i, g[i])
		}
	}
}

// TestGraphIsEdge holds Graph against Edge of each two.
func TestGraphIsEdge(t *testing.T) { // P13.4
	r := random(4)
	for range 300 {
		s := r.system()
		if r.below(6) == 0 {
			s.Rules = append(s.Rules, rule(row(1), row(-1)))
		}
		l := r.pairs(s, r.below(9))
		var want [][]int
		for _, p := range l {
			var to []int
			for k, q := range l {
				if Edge(s, p, q) {
					to = append(to, k)
				}
			}
			want = append(want, to)
		}
		follows(t, s, l, want...)
	}
}
