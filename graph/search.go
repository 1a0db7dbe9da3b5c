package graph

import (
	"math"
	"slices"
)

// deepest is how many calls of the walk's closure stand within one another at most: a row of nodes may be longer than what a stack has room for.
const deepest = 1 << 12

// What a node has instead of a place among the open ones. A closed one's is greater than all places: that it is met again must lessen nothing.
const (
	unmet  = -1
	closed = math.MaxInt
)

// search is what a walk through a graph has found so far.
type search struct {
	g     [][]int
	open  []int // the nodes whose part isn't known yet, in the order in which they were met
	at    []int // of each node its place among these
	least []int // of each open node the least place of an open one to which it is known to lead
	gone  []int // of each node how many of its edges the walk has gone along
	path  []int // the nodes from where the walk set out down to where it is
	parts [][]int
}

func newSearch(g [][]int) *search {
	return &search{
		g:     g,
		at:    slices.Repeat([]int{unmet}, len(g)),
		least: make([]int, len(g)),
		gone:  make([]int, len(g)),
	}
}

// walk goes through all of the graph.
func (s *search) walk() {
	// down tells whether all that is to be met from a node was met. If not, it went too deep, and all calls are given up: where the walk is, and what it has found, stands in s, so that it goes on from the path's end.
	var down func(node, calls int) bool
	down = func(node, calls int) bool {
		if calls == deepest {
			return false
		}
		for s.gone[node] < len(s.g[node]) {
			to := s.g[node][s.gone[node]]
			s.gone[node]++
			switch {
			case to < 0 || to >= len(s.g):
			case s.at[to] != unmet:
				s.least[node] = min(s.least[node], s.at[to])
			default:
				s.enter(to)
				if !down(to, calls+1) {
					return false
				}
			}
		}
		s.leave(node)
		return true
	}
	for node := range s.g {
		if s.at[node] == unmet {
			s.enter(node)
		}
		for len(s.path) > 0 {
			down(s.path[len(s.path)-1], 0)
		}
	}
}

func (s *search) enter(node int) {
	s.at[node] = len(s.open)
	s.least[node] = len(s.open)
	s.open = append(s.open, node)
	s.path = append(s.path, node)
}

// leave goes back from the path's end. If no way leads from it to an open node that was met ahead of it, those that were met behind it, and no others, lie on circles with it.
func (s *search) leave(node int) {
	s.path = s.path[:len(s.path)-1]
	if s.least[node] == s.at[node] {
		s.closeFrom(node)
		return
	}
	// It was not the path's first node: ahead of that one none is open.
	above := s.path[len(s.path)-1]
	s.least[above] = min(s.least[above], s.least[node])
}

// closeFrom closes a node and the open ones behind it. One alone is a part only if an edge leads from it to itself.
func (s *search) closeFrom(node int) {
	together := s.open[s.at[node]:]
	s.open = s.open[:s.at[node]]
	for _, k := range together {
		s.at[k] = closed
	}
	if len(together) == 1 && !slices.Contains(s.g[node], node) {
		return
	}
	part := slices.Clone(together)
	slices.Sort(part)
	s.parts = append(s.parts, part)
}
