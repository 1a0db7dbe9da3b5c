package overlap

import (
	"math"
	"testing"

	"lodestone/api"
	"lodestone/system"
)

// TestAllArguments holds that no call panics at any arguments, that beside an error nothing is told, and that the calls go together.
func TestAllArguments(t *testing.T) { // R1, R2, R3, R4
	sigs := [][]api.Symbol{nil, three(), all(), many(64), many(65), many(128), many(129), make([]api.Symbol, 3), {sym("f", -5)}, {sym("f", math.MaxInt)}, {sym("\xff", 0)}, {sym("f#", 1)}, {sym("#", 0)}}
	rows := [][]int{nil, {}, {0}, {-1}, {1, 1}, {1, -1}, {1, 1, -1}, {2, 0, -1}, {2, 1, -1, -2}, {3}, {4, -1}, {64}, {math.MaxInt}, {math.MinInt}, {8, 8, 8}, tower(40, -1), tower(600, -1), tower(2000, 0)}
	n := 0
	for _, sig := range sigs {
		for _, l := range rows {
			for _, r := range rows {
				n += together(t, api.System{Sig: sig, Rules: rules(rule(l, r))})
				n += together(t, api.System{Sig: sig, Rules: rules(rule(row(1, -1), row(-1)), rule(l, r))})
			}
		}
		n += together(t, api.System{Sig: sig})
		n += together(t, api.System{Sig: sig, Rules: make([]api.Rule, 3)})
		n += together(t, api.System{Sig: sig, Rules: make([]api.Rule, 1000)})
	}
	if n < 1000 {
		t.Errorf("only %d pairs", n)
	}
}

// together tells how many critical pairs there are.
func together(t *testing.T, s api.System) int {
	t.Helper()
	want, _ := system.Check(s)
	l, e := All(s)
	if e != want || e != api.OK && len(l) > 0 {
		t.Fatalf("All(%v): %v, %v, and the system: %v", s, l, e, want)
	}
	var each []api.Critical
	for _, outer := range numbers(s) {
		for _, inner := range numbers(s) {
			some, f := Of(s, outer, inner)
			switch {
			case want != api.OK:
				if f != want || len(some) > 0 {
					t.Fatalf("Of(%v, %d, %d): %v, %v, and the system: %v", s, outer, inner, some, f, want)
				}
			case min(outer, inner) < 0 || max(outer, inner) >= len(s.Rules):
				if f != api.ErrArg || len(some) > 0 {
					t.Fatalf("Of(%v, %d, %d): %v, %v", s, outer, inner, some, f)
				}
			case f != api.OK:
				t.Fatalf("Of(%v, %d, %d): %v", s, outer, inner, f)
			}
			each = append(each, some...)
		}
	}
	if !sameCriticals(l, each) {
		t.Fatalf("All(%v): %v, and of each two rules: %v", s, l, each)
	}
	for _, c := range l {
		if c.Code != api.OK && !sameCritical(c, tooBig(c.Outer, c.Inner, c.At)) {
			t.Fatalf("All(%v): %v", s, c)
		}
	}
	return len(l)
}

// numbers are those of the first rules, and some that are none's.
func numbers(s api.System) []int {
	l := []int{math.MinInt, -1}
	for i := range min(len(s.Rules), 3) {
		l = append(l, i)
	}
	return append(l, len(s.Rules), math.MaxInt)
}
