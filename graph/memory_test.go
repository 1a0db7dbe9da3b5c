package graph

import (
	"slices"
	"testing"
)

// roomy is a copy of a graph with more behind each row's length, and behind its own: edges that would make circles of all nodes.
func roomy(g [][]int) [][]int {
	var out [][]int
	for i, l := range g {
		out = append(out, append(slices.Clone(l), behind(g, i)...)[:len(l)])
	}
	return append(out, row(0))[:len(g)]
}

func behind(g [][]int, i int) []int { return row(i, (i+1)%len(g), 0) }

// kept tells whether a roomy copy is as it was made of a graph.
func kept(g, was [][]int) bool {
	for i, l := range was {
		if len(g[i]) != len(l) || !slices.Equal(g[i][:len(l)+3], slices.Concat(l, behind(was, i))) {
			return false
		}
	}
	return len(g) == len(was) && slices.Equal(g[:len(was)+1][len(was)], row(0))
}

func TestArgumentsStay(t *testing.T) { // R5
	eachGraph(14, func(was [][]int) {
		g := roomy(was)
		Parts(g)
		if !kept(g, was) {
			t.Fatalf("Parts(%v) changed it", was)
		}
	})
	was := longRow(3 * deepest)
	was[3*deepest-1] = row(9, -1, 9)
	g := roomy(was)
	Parts(g)
	if !kept(g, was) {
		t.Errorf("Parts of a long row changed it")
	}
}

func TestRoomIsNotRead(t *testing.T) { // R5
	eachGraph(15, func(g [][]int) { has(t, roomy(g), plainParts(g)...) })
	has(t, append(rows(), row(0))[:0])
	has(t, rows(append(row(1), 0)[:1], append(row(), 0, 1)[:0]))
}

// TestPartsAreNew spoils one part of an answer after the other, its spare room too, and holds that no argument, no other part and no other answer has changed.
func TestPartsAreNew(t *testing.T) { // R5
	spoilt := 0
	eachGraph(16, func(was [][]int) {
		g := roomy(was)
		parts, other := Parts(g), Parts(g)
		want := plainParts(was)
		for i, part := range parts {
			spoilt++
			part = part[:cap(part)]
			for at := range part {
				part[at] = 1 << 40
			}
			if !kept(g, was) || !sameRows(parts[i+1:], want[i+1:]) {
				t.Fatalf("Parts(%v): the part %d shares its memory", was, i)
			}
		}
		clear(parts[:cap(parts)])
		if !kept(g, was) || !sameRows(other, want) {
			t.Fatalf("Parts(%v): two answers share memory", was)
		}
		has(t, g, want...)
	})
	if spoilt < 1000 {
		t.Errorf("only %d parts", spoilt)
	}
}

// TestGraphsAreNotKept writes over a graph whose parts were told.
func TestGraphsAreNotKept(t *testing.T) { // R5
	eachGraph(17, func(was [][]int) {
		g := copied(was)
		parts := Parts(g)
		for _, l := range g {
			clear(l)
		}
		clear(g)
		if !sameRows(parts, plainParts(was)) {
			t.Fatalf("Parts(%v) changed with the graph: %v", was, parts)
		}
	})
}

// TestOneRowTwice: the same memory may be handed in as the edges of several nodes, or pieces of it.
func TestOneRowTwice(t *testing.T) { // R5
	l := row(1, 2, 0)
	has(t, rows(l, l, l), row(0, 1, 2))
	has(t, rows(l[:1], l[1:2], l[2:]), row(0, 1, 2))
	has(t, rows(l[:2], l[:2], l[:1], l[:0]), row(1, 2))
	if !slices.Equal(l, row(1, 2, 0)) {
		t.Errorf("%v", l)
	}
	g := rows(row(1), row(0), row(1))
	has(t, g[:2], row(0, 1))
	has(t, g[1:], row(0), row(1)) // a node's number is its place in what is handed in
	has(t, g[2:])
}

// TestNothingIsKept: what one call was given does not show in the next one, nor in one at the same time.
func TestNothingIsKept(t *testing.T) { // R6
	ring := longRow(2 * deepest)
	ring[len(ring)-1] = row(0)
	for range 3 {
		has(t, rows(row(1), row(0)), row(0, 1))
		has(t, rows(row(1), nil))
		holdLong(t, "a circle", ring, rows(upTo(len(ring))))
		has(t, rows(row(0)), row(0))
		has(t, nil)
	}
	done := make(chan bool)
	for range 4 {
		go func() {
			ok := true
			for range 20 {
				got := Parts(ring)
				ok = ok && len(got) == 1 && len(got[0]) == len(ring)
			}
			done <- ok
		}()
	}
	for range 4 {
		if !<-done {
			t.Errorf("calls at the same time answer otherwise")
		}
	}
}
