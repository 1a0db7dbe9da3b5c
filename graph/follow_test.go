package graph

import (
	"slices"
	"testing"
)

// TestOnCircles: no node is in two parts; those that are in none are taken away one by one, each when no edge leads from it to one that is left, nor to itself.
func TestOnCircles(t *testing.T) { // P14.2
	alone := 0
	eachGraph(5, func(g [][]int) {
		home := homes(t, g, Parts(g))
		var left []int
		for i := range g {
			if home[i] < 0 {
				left = append(left, i)
			}
		}
		alone += len(left)
		for len(left) > 0 {
			at := slices.IndexFunc(left, func(i int) bool { return !leadsTo(g[i], left) })
			if at < 0 {
				t.Fatalf("Parts(%v): %v lie on circles", g, left)
			}
			left = slices.Delete(left, at, at+1)
		}
	})
	if alone < 3000 {
		t.Errorf("only %d nodes are in no part", alone)
	}
}

// leadsTo tells whether an edge leads to one of these nodes.
func leadsTo(edges, nodes []int) bool {
	return slices.ContainsFunc(edges, func(k int) bool { return slices.Contains(nodes, k) })
}

// TestNodesOfPartsLieOnCircles: from each node of a part an edge leads to one of the same part; without it such a node would be taken away, too.
func TestNodesOfPartsLieOnCircles(t *testing.T) { // P14.2
	eachGraph(6, func(g [][]int) {
		for _, part := range Parts(g) {
			for _, i := range part {
				if !leadsTo(g[i], part) || !leadsTo(turned(g)[i], part) {
					t.Fatalf("Parts(%v): %d is in %v", g, i, part)
				}
			}
		}
	})
}

func TestTurned(t *testing.T) { // P14.3
	for g := range everyGraph(4) {
		has(t, turned(g), Parts(g)...)
	}
	eachGraph(7, func(g [][]int) { has(t, turned(g), Parts(g)...) })
}

func TestRenamed(t *testing.T) { // P14.3
	for n := range 4 {
		for g := range everyGraph(n) {
			parts := Parts(g)
			for _, to := range everyOrder(n) {
				has(t, renamed(g, to), renamedParts(parts, to)...)
			}
		}
	}
	r := random(8)
	eachGraph(9, func(g [][]int) {
		for _, to := range rows(backward(len(g)), shuffled(&r, upTo(len(g)))) {
			has(t, renamed(g, to), renamedParts(Parts(g), to)...)
		}
	})
}

// TestInsideAlone: the edges that lead from a part's node to one of the same part make the same parts; each part's edges alone make that part alone.
func TestInsideAlone(t *testing.T) { // P14.4
	gone := 0
	eachGraph(10, func(g [][]int) {
		parts := Parts(g)
		home := homes(t, g, parts)
		inside := make([][]int, len(g))
		for i, l := range g {
			for _, k := range l {
				if k >= 0 && k < len(g) && home[i] >= 0 && home[i] == home[k] {
					inside[i] = append(inside[i], k)
				}
			}
			gone += len(l) - len(inside[i])
		}
		has(t, inside, parts...)
		for _, part := range parts {
			one := make([][]int, len(g))
			for _, i := range part {
				one[i] = inside[i]
			}
			has(t, one, part)
		}
	})
	if gone < 3000 {
		t.Errorf("only %d edges less", gone)
	}
}

// within holds that each part of a graph is within one of another graph with more edges.
func within(t *testing.T, g, more [][]int) (grown bool) {
	t.Helper()
	few, many := Parts(g), Parts(more)
	home := homes(t, more, many)
	for _, part := range few {
		for _, i := range part {
			if home[i] < 0 || home[i] != home[part[0]] {
				t.Fatalf("Parts(%v): %v, and with more edges, of %v: %v", g, few, more, many)
			}
		}
	}
	if len(slices.Concat(many...)) < len(slices.Concat(few...)) {
		t.Fatalf("Parts(%v): %v has more nodes than those with more edges: %v", g, few, many)
	}
	return !sameRows(few, many)
}

func TestMoreEdges(t *testing.T) { // P14.4
	for g := range everyGraph(3) {
		for i := range g {
			for k := range g {
				more := copied(g)
				more[i] = append(more[i], k)
				within(t, g, more)
			}
		}
	}
	r := random(11)
	grown := 0
	eachGraph(12, func(g [][]int) {
		more := copied(g)
		for range 6 {
			if len(g) == 0 {
				break
			}
			i := r.below(len(g))
			more[i] = slices.Insert(more[i], r.below(len(more[i])+1), r.below(len(g)))
			if within(t, g, more) {
				grown++
			}
		}
	})
	if grown < 1000 {
		t.Errorf("only %d times other parts", grown)
	}
}

// TestOneByOne: with each edge that is told the parts grow, up to those of the whole.
func TestOneByOne(t *testing.T) { // P14.4
	r := random(13)
	for range 100 {
		g := r.graph(12)
		more := make([][]int, len(g))
		for _, i := range shuffled(&r, upTo(len(g))) {
			for _, k := range g[i] {
				was := copied(more)
				more[i] = append(more[i], k)
				within(t, was, more)
			}
		}
		has(t, more, Parts(g)...)
	}
}
