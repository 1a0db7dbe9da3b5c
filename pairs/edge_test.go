package pairs

import (
	"slices"
	"testing"

	"lodestone/api"
	"lodestone/unify"
)

func TestEdgeExamples(t *testing.T) { // P13.3
	edge(t, sums(), row(5, 1, -1, 0), row(5, 0, -1), false)
	edge(t, sums(), row(5, 2, 0, 0, 0), row(5, 1, -1, -2), true)
	edge(t, sums(), row(5, -1, -2), row(5, 1, -1, -2), true)
}

// TestRoots: the marked root stays, though its symbol is defined.
func TestRoots(t *testing.T) { // P13.3
	for _, s := range smallSystems() {
		sides := [][]int{{3}, {4, -1}, {5, -1, -2}}
		for i, r := range sides {
			for k, l := range sides {
				edge(t, s, r, l, i == k)
			}
		}
	}
}

// TestWrongSides: such a side has no edge, even with itself, and where it is right as the other one.
func TestWrongSides(t *testing.T) { // P13.3, R3
	for _, s := range append(smallSystems(), over(slices.Repeat(sums().Rules, 32)...)) {
		for _, wrong := range wrongSides() {
			edge(t, s, wrong, wrong, false)
			for _, right := range [][]int{{3}, {4, -1}, {5, -1, -2}} {
				edge(t, s, wrong, right, false)
				edge(t, s, right, wrong, false)
			}
		}
	}
}

// TestSizes: a side of just MaxNodes nodes may stand; what its CAP would have counts nothing.
func TestSizes(t *testing.T) { // P13.3
	for _, end := range []int{0, -1} {
		just, more := slices.Concat(row(4), tower(api.MaxNodes-1, end)), slices.Concat(row(4), tower(api.MaxNodes, end))
		for _, s := range []api.System{over(), sums()} {
			edge(t, s, just, just, true)
			edge(t, s, just, row(4, -1), true)
			edge(t, s, row(4, -1), just, true)
			edge(t, s, more, row(4, -1), false)
			edge(t, s, row(4, -1), more, false)
		}
	}
	short := over(rule(row(1, -1), row(-1))) // the CAP of each tower is a variable
	edge(t, short, slices.Concat(row(4), tower(api.MaxNodes-1, 0)), row(4, 0), true)
	edge(t, short, slices.Concat(row(4), tower(api.MaxNodes, 0)), row(4, 0), false)
}

// TestBoundTermsTooBig: what unifies them may be too big to be told.
func TestBoundTermsTooBig(t *testing.T) { // P13.3
	r, l := slices.Concat(row(5), tower(250, 0), row(-1)), slices.Concat(row(5, -1), rake(row(-1), row(-1), row(-1)))
	sig, _ := Extend(three())
	apart := slices.Concat(row(5), tower(250, 0), row(-99))
	if _, e := unify.Unify(sig, apart, l); e != api.ErrTooBig {
		t.Errorf("Unify: %v", e)
	}
	edge(t, over(), r, l, true)
	edge(t, over(rule(row(0), row(1, 0))), r, l, true)
	edge(t, over(), slices.Concat(row(5), tower(250, 0), tower(2, -1)), l, false)
}

// TestDefinedSymbols: a term whose root is defined becomes a variable in p.R, wherever it stands, and in q.L it stays.
func TestDefinedSymbols(t *testing.T) { // P13.3
	edge(t, sums(), row(5, 2, 0, 0, 2, 0, 0), row(5, 0, 1, 0), true) // the same term twice: two variables
	edge(t, sums(), row(4, 1, 1, 2, -1, -1), row(4, 1, 1, 0), true)
	edge(t, sums(), row(4, 1, 1, 2, -1, -1), row(4, 1, 0), false)
	edge(t, sums(), row(4, 1, 2, 1, 0, 0), row(4, 1, 2, 0, 0), true)
	edge(t, over(), row(4, 1, 2, 1, 0, 0), row(4, 1, 2, 0, 0), false)
	edge(t, sums(), row(5, 0, 0), row(5, 2, -1, -2, 0), false)
	edge(t, sums(), row(5, -1, 0), row(5, 2, -1, -2, 0), true)
	edge(t, sums(), row(5, 2, 0, 0, 0), row(5, 0, 1, 0), false) // behind a term that became a variable
	edge(t, sums(), row(5, 2, 0, 2, 0, 0, 1, 0), row(5, 0, 1, 0), true)
	edge(t, sums(), row(5, 2, 0, 2, 0, 0, 1, 0), row(5, 0, 0), false)
	zero := over(rule(row(0), row(1, 0)))
	edge(t, zero, row(4, 0), row(4, 1, 0), true)
	edge(t, zero, row(4, 1, 0), row(4, 0), false)
	edge(t, zero, row(5, 0, 0), row(5, 1, -1, -1), true)
	edge(t, zero, row(3), row(3), true)
	edge(t, over(), row(4, 0), row(4, 1, 0), false)
}

// TestMarkedBelow: a marked symbol below the root stays, though what it marks is defined, with the CAPs of its arguments.
func TestMarkedBelow(t *testing.T) { // P13.3
	edge(t, sums(), row(4, 5, 0, 0), row(4, 5, 0, 0), true)
	edge(t, sums(), row(4, 5, 0, 0), row(4, -1), true)
	edge(t, sums(), row(4, 5, 0, 0), row(4, 2, 0, 0), false)
	edge(t, sums(), row(4, 5, 0, 0), row(4, 0), false)
	edge(t, sums(), row(4, 5, 0, 0), row(4, 5, 1, -1, 0), false)
	edge(t, sums(), row(4, 5, 2, 0, 0, 0), row(4, 5, 1, -1, 0), true)
	edge(t, sums(), row(4, 5, -1, -1), row(4, 5, 0, 1, 0), true)
	edge(t, sums(), row(4, 2, 5, 0, 0, 0), row(4, 0), true) // inside of a defined one
	edge(t, sums(), row(4, 0), row(4, 3), false)
	edge(t, sums(), row(4, 3), row(4, 3), true)
	edge(t, over(rule(row(0), row(0))), row(4, 3), row(4, 0), false)
	edge(t, over(rule(row(0), row(0))), row(4, 0), row(4, 3), true)
}

// TestVariablesTwice: in p.R each becomes one of its own, in q.L it stays the same one.
func TestVariablesTwice(t *testing.T) { // P13.3
	for _, s := range []api.System{over(), sums()} {
		edge(t, s, row(5, -1, -1), row(5, 0, 1, -1), true)
		edge(t, s, row(5, 1, -1, 1, 1, -1), row(5, -1, -1), true)
		edge(t, s, row(5, -1, 1, -1), row(5, -1, -1), true)
		edge(t, s, row(5, 0, 1, 0), row(5, -1, -1), false)
		edge(t, s, row(5, 0, 1, -1), row(5, -1, -1), false)
		edge(t, s, row(5, 0, -1), row(5, -1, -1), true)
		edge(t, s, row(5, 0, 0), row(5, -1, -1), true)
		edge(t, s, row(5, 0, 1, 0), row(5, -1, 1, -1), true)
		edge(t, s, row(5, 0, 1, 1, 0), row(5, -1, 1, -1), false)
	}
	edge(t, sums(), row(5, 2, 0, 0, 1, 0), row(5, -1, -1), true)
	edge(t, sums(), row(5, 1, 2, 0, 0, 0), row(5, -1, -1), false)
}

// TestVariablesOfBoth: a number that stands on both sides is two variables, whichever number it is.
func TestVariablesOfBoth(t *testing.T) { // P13.3
	edge(t, sums(), row(4, -1), row(4, 1, -1), true)
	edge(t, sums(), row(4, 1, -1), row(4, -1), true)
	edge(t, sums(), row(5, -1, -2), row(5, -2, 1, -1), true)
	edge(t, sums(), row(5, 1, -1, -2), row(5, -2, 1, -2), true)
	numbers := row(api.MaxVar-1, api.MaxVar-2, api.MaxVar-512, api.MaxVar-513, api.MaxVar/2)
	for v := range 1100 {
		numbers = append(numbers, v)
	}
	for _, v := range numbers {
		x := -1 - v
		for _, r := range [][]int{{5, -1, -2}, {5, x, x}, {5, 2, 0, 0, x}} {
			for _, l := range [][]int{{5, x, 1, x}, {5, 1, x, x}, {5, 1, 1, x, 1, x}} {
				if !Edge(sums(), rule(nil, r), rule(l, nil)) {
					t.Errorf("Edge of %v and %v: false", r, l)
				}
			}
		}
	}
}

// TestManyVariables: as many as a side can have, each below an s on the other side.
func TestManyVariables(t *testing.T) { // P13.3
	most := (api.MaxNodes - 2) / 2
	var r, l [][]int
	for v := range most {
		r = append(r, row(-1-v))
		if v < most*2/3-1 {
			l = append(l, row(1, -1-v))
		}
	}
	right, left := slices.Concat(row(4), rake(r...)), slices.Concat(row(4), rake(l...))
	edge(t, over(), right, right, true)
	edge(t, over(), slices.Concat(row(4), rake(r[:len(l)]...)), left, true)
	edge(t, over(), right, left, false) // zero stands where a plus is
	edge(t, over(), left, slices.Concat(row(4), rake(r[:len(l)]...)), true)
}

// bush has terms over all as its ends, seven of them below each symbol of eight arguments; zeros fill up the last one.
func bush(ends ...[]int) []int {
	t := row(8)
	for i, end := range ends {
		if i > 0 && i%7 == 0 {
			t = append(t, 8)
		}
		t = append(t, end...)
	}
	return slices.Concat(t, slices.Repeat(row(0), 8-(len(ends)-1)%7-1))
}

// TestWideSides: each number of variables ahead of one that stands below an s: whatever the CAP's variables are numbered, none of them may be one of q.L's, which would be a part of itself then.
func TestWideSides(t *testing.T) { // P13.3
	s := api.System{Sig: all()}
	var ends [][]int
	for n := range 420 {
		ends = append(ends, row(-1-n))
		r := slices.Concat(row(10), bush(append(slices.Clone(ends), row(-1-n))...))
		l := slices.Concat(row(10), bush(append(slices.Clone(ends), row(1, -1))...))
		edge(t, s, r, l, true)
		edge(t, s, l, r, true)
		edge(t, s, l, slices.Concat(row(10), bush(append(slices.Clone(ends), row(0))...)), false)
	}
}

// TestEdgeOfWrongSystems: sides that would have an edge have none in a system that is not right.
func TestEdgeOfWrongSystems(t *testing.T) { // P13.3, P13.4, R3
	for _, w := range wrongSystems() {
		n := len(w.s.Sig)
		for _, side := range [][]int{{3}, {4, -1}, {5, -1, -2}, {n}, {n + 1, -1}, {n + 2, -1, -2}} {
			edge(t, w.s, side, side, false)
			p := rule(side, side)
			follows(t, w.s, rules(p, p, p), nil, nil, nil)
			follows(t, w.s, nil)
		}
	}
}

// TestManySymbolsEdge: of just MaxSymbols symbols, of one, and of none.
func TestManySymbolsEdge(t *testing.T) { // P13.3
	s := api.System{Sig: many(api.MaxSymbols)}
	for code := range 140 {
		arity := code % 64 % 3
		side := slices.Concat(row(code), slices.Repeat(row(-1), arity))
		edge(t, s, side, side, code >= 64 && code < 128)
	}
	one := api.System{Sig: []api.Symbol{sym("a", 0)}}
	edge(t, one, row(1), row(1), true)
	edge(t, one, row(0), row(0), false)
	edge(t, one, row(2), row(2), false)
	for _, side := range [][]int{nil, {0}, {-1}, {1}, {-2}} {
		edge(t, api.System{}, side, side, false)
	}
}
