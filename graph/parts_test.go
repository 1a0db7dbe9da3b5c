package graph

import (
	"slices"
	"testing"
)

func TestExamples(t *testing.T) { // P14.1
	has(t, nil)
	has(t, rows())
	has(t, rows(row()))
	has(t, rows(row(0)), row(0))
	has(t, rows(row(1), row(2), row(0, 3), row(3), row(0)), row(0, 1, 2), row(3))
	has(t, rows(row(1), row(2), row()))
	has(t, rows(row(3, -1, 9), row(2), row(1), row(0)), row(0, 3), row(1, 2))
}

// TestOneNode: it is a part just if an edge leads from it to itself, wherever that is told.
func TestOneNode(t *testing.T) { // P14.1
	has(t, rows(nil))
	for _, l := range rows(row(0, 0, 0), row(0, 1), row(1, 0), row(-1, 0, 7)) {
		has(t, rows(l), row(0))
	}
	for _, l := range rows(row(1), row(-1), row(1, -1, 1), noNodes(1)) {
		has(t, rows(l))
	}
}

func TestTwoNodes(t *testing.T) { // P14.1
	has(t, rows(nil, nil))
	has(t, rows(row(1), nil))
	has(t, rows(nil, row(0)))
	has(t, rows(row(1), row(0)), row(0, 1))
	has(t, rows(row(0), row(1)), row(0), row(1))
	has(t, rows(row(0, 1), row(1)), row(0), row(1))
	has(t, rows(row(0), row(1, 0)), row(0), row(1))
	has(t, rows(row(1, 0), row(0)), row(0, 1))
	has(t, rows(row(0, 1), nil), row(0))
	has(t, rows(row(1), row(1)), row(1))
}

// TestEveryGraph holds all graphs of at most four nodes against the definition.
func TestEveryGraph(t *testing.T) { // P14.1
	for n := range 5 {
		for g := range everyGraph(n) {
			holdPlain(t, g)
		}
	}
}

// TestEveryOrderOfEdges: those of a node are told in any order; the walk takes another way each time.
func TestEveryOrderOfEdges(t *testing.T) { // P14.1
	for g := range everyGraph(3) {
		want := plainParts(g)
		for _, a := range everyOrder(len(g[0])) {
			for _, b := range everyOrder(len(g[1])) {
				for _, c := range everyOrder(len(g[2])) {
					has(t, rows(picked(g[0], a), picked(g[1], b), picked(g[2], c)), want...)
				}
			}
		}
	}
}

// picked are the items of a list at these places.
func picked(l, places []int) []int {
	var out []int
	for _, at := range places {
		out = append(out, l[at])
	}
	return out
}

func TestDrawn(t *testing.T) { // P14.1
	r := random(1)
	counts := map[string]int{}
	for range 4000 {
		g := r.graph(30)
		parts := holdPlain(t, g)
		for _, part := range parts {
			if len(part) == 1 {
				counts["of one node"]++
			} else {
				counts["of several"]++
			}
		}
		if len(parts) > 2 {
			counts["with more than two"]++
		}
	}
	for what, least := range map[string]int{"of one node": 1000, "of several": 1000, "with more than two": 200} {
		if counts[what] < least {
			t.Errorf("only %d %s", counts[what], what)
		}
	}
}

// TestDrawnCircles: the parts are known from how the graph was made, and the definition says the same.
func TestDrawnCircles(t *testing.T) { // P14.1
	r := random(2)
	for range 2000 {
		g, want := r.circles(40)
		if got := holdPlain(t, g); !sameRows(got, want) {
			t.Fatalf("Parts(%v): %v, want %v", g, got, want)
		}
	}
	for range 20 {
		g, want := r.circles(2000)
		holdLong(t, "circles", g, want)
	}
}

// TestToldSeveralTimes: an edge is one, however often and wherever it is told.
func TestToldSeveralTimes(t *testing.T) { // P14.1
	has(t, rows(row(1, 1, 1), row(2, 2), row()))
	has(t, rows(row(1, 1), row(0, 0, 0)), row(0, 1))
	has(t, rows(row(1, 2, 1), row(2, 0, 2), row(2, 2)), row(0, 1), row(2))
	r := random(3)
	eachGraph(4, func(g [][]int) {
		want := plainParts(g)
		more := copied(g)
		for i, l := range g {
			for _, k := range l {
				more[i] = slices.Concat(more[i], slices.Repeat(row(k), r.below(3)))
			}
			more[i] = shuffled(&r, more[i])
		}
		has(t, more, want...)
	})
}

// TestNumbersThatAreNoNodes: they are passed over, wherever they stand, and none of them ends a row.
func TestNumbersThatAreNoNodes(t *testing.T) { // P14.1
	for n := range 4 {
		for g := range everyGraph(n) {
			want := plainParts(g)
			for i, l := range g {
				for at := range len(l) + 1 {
					more := copied(g)
					more[i] = slices.Insert(more[i], at, noNodes(n)...)
					has(t, more, want...)
				}
			}
		}
	}
	for _, no := range noNodes(3) {
		has(t, rows(row(no, 1), row(0, no), row(no)), row(0, 1))
		has(t, rows(row(no), row(no, no), row(no, 2)), row(2))
	}
}

// TestBetweenParts: nodes on a way from a part to another one, ahead of the first, or behind the last, are in none.
func TestBetweenParts(t *testing.T) { // P14.1
	has(t, rows(row(1), row(0, 2), row(3), row(4), row(5), row(4)), row(0, 1), row(4, 5))
	has(t, rows(row(1), row(2), row(1, 3), row(4), row()), row(1, 2))
	has(t, rows(row(0, 1), row(2), row(2, 3), row()), row(0), row(2))
	// two ways from one part to another one, and edges past what is between
	has(t, rows(row(1, 2, 5), row(0, 3), row(4), row(4), row(5), row(6), row(5)), row(0, 1), row(5, 6))
	// a node that several parts lead to, and one that leads to several
	has(t, rows(row(0, 3), row(1, 3), row(2, 3), row()), row(0), row(1), row(2))
	has(t, rows(row(1, 2, 3), row(1), row(2), row(3)), row(1), row(2), row(3))
}

// TestLeastNodesFirst: the parts rise by their least nodes, in whichever order they are met, or come to their ends.
func TestLeastNodesFirst(t *testing.T) { // P14.1
	has(t, rows(row(4), row(3), row(2), row(1), row(0)), row(0, 4), row(1, 3), row(2))
	has(t, rows(row(0, 1), row(1, 2), row(2, 3), row(3)), row(0), row(1), row(2), row(3))
	has(t, rows(row(0), row(1, 0), row(2, 1), row(3, 2)), row(0), row(1), row(2), row(3))
	has(t, rows(row(5), row(2), row(1), row(4), row(3), row(0, 3, 1)), row(0, 5), row(1, 2), row(3, 4))
	has(t, rows(row(5), row(2), row(1), row(4), row(3), row(0, 1, 3)), row(0, 5), row(1, 2), row(3, 4))
	has(t, rows(row(9, 4), nil, row(7), row(8), row(6), nil, row(4), row(2), row(3), row(0)), row(0, 9), row(2, 7), row(3, 8), row(4, 6))
	// the nodes of a part rise, too
	has(t, rows(row(3), row(4), row(1), row(2), row(0)), row(0, 1, 2, 3, 4))
}

// TestCirclesThatShareNodes are one part.
func TestCirclesThatShareNodes(t *testing.T) { // P14.1
	has(t, rows(row(1, 3), row(2), row(0), row(4), row(0)), row(0, 1, 2, 3, 4))
	has(t, rows(row(1), row(2, 0), row(3, 1), row(4, 2), row(3)), row(0, 1, 2, 3, 4))
	has(t, rows(row(1), row(2), row(3, 0), row(4), row(5, 1), row()), row(0, 1, 2, 3, 4))
	has(t, rows(row(1), row(2), row(3, 0), row(4), row(5), row(3)), row(0, 1, 2), row(3, 4, 5))
}

// TestManyEdges: all that there may be, and all that make no circle.
func TestManyEdges(t *testing.T) { // P14.1
	n := 300
	whole, rising, falling := make([][]int, n), make([][]int, n), make([][]int, n)
	for i := range n {
		whole[i], rising[i], falling[i] = upTo(n), upTo(n)[i+1:], upTo(i)
	}
	holdLong(t, "all edges", whole, rows(upTo(n)))
	holdLong(t, "rising edges", rising, nil)
	holdLong(t, "falling edges", falling, nil)
	rising[n-1] = row(0)
	falling[0] = row(n - 1)
	holdLong(t, "rising edges, and one back", rising, rows(upTo(n)))
	holdLong(t, "falling edges, and one back", falling, rows(upTo(n)))
}
