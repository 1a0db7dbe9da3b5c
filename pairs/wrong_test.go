package pairs

import (
	"math"
	"slices"
	"testing"

	"lodestone/api"
	"lodestone/system"
)

// TestAllArguments holds that no call panics at any arguments, that beside an error nothing is told, and that the calls go together.
func TestAllArguments(t *testing.T) { // R1, R2, R3
	sigs := [][]api.Symbol{nil, three(), all(), many(64), many(65), many(128), many(129), make([]api.Symbol, 3), {sym("f", -5)}, {sym("f", math.MaxInt)}, {sym("\xff", 0)}, {sym("f#", 1)}, {sym("#", 0)}}
	rows := [][]int{nil, {}, {0}, {-1}, {1, 1}, {1, -1}, {2, 0, -1}, {3}, {4, -1}, {5, -1, -2}, {64}, {127}, {math.MaxInt}, {math.MinInt}, {8, 8, 8}, tower(600, -1), tower(1<<16, 0)}
	edges := 0
	for _, sig := range sigs {
		Extend(sig)
		for _, l := range rows {
			for _, r := range rows {
				edges += together(t, api.System{Sig: sig, Rules: rules(rule(l, r))}, rows)
			}
		}
		edges += together(t, api.System{Sig: sig}, rows)
		edges += together(t, api.System{Sig: sig, Rules: make([]api.Rule, 3)}, rows)
		edges += together(t, api.System{Sig: sig, Rules: make([]api.Rule, 1000)}, rows)
	}
	if edges < 50 {
		t.Errorf("only %d edges", edges)
	}
}

// together tells how many edges there are among pairs of these rows.
func together(t *testing.T, s api.System, rows [][]int) int {
	t.Helper()
	want, _ := system.Check(s)
	l, e := Of(s)
	if e != want && !(want == api.OK && e == api.ErrTooBig) || e != api.OK && len(l) > 0 {
		t.Fatalf("Of(%v): %v, %v, and the system: %v", s, l, e, want)
	}
	for i, side := range rows {
		l = append(l, rule(side, rows[(i+1)%len(rows)]), rule(side, side))
	}
	g := Graph(s, l)
	if len(g) != len(l) {
		t.Fatalf("Graph: %d rows for %d pairs", len(g), len(l))
	}
	edges := edgesOf(g)
	if edges > 0 && want != api.OK {
		t.Fatalf("Graph(%v, %v): %v, and the system: %v", s, l, g, want)
	}
	for i, p := range l {
		if Edge(s, p, p) != slices.Contains(g[i], i) {
			t.Fatalf("Edge(%v, %v) with itself, and Graph: %v", s, p, g[i])
		}
	}
	return edges
}
