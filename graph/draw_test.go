package graph

import "slices"

// random draws the same numbers in each run.
type random uint64

func (r *random) below(n int) int {
	*r = *r*6364136223846793005 + 1442695040888963407
	return int(*r>>33) % n
}

// shuffled is a copy of a list in a drawn order.
func shuffled(r *random, l []int) []int {
	l = slices.Clone(l)
	for i := range l {
		j := r.below(i + 1)
		l[i], l[j] = l[j], l[i]
	}
	return l
}

// graph draws a graph of at most so many nodes, with few edges or many; one is now and then told twice, and some numbers are no node's.
func (r *random) graph(most int) [][]int {
	n := 1 + r.below(most)
	g := make([][]int, n)
	for range r.below(3*n + 1) {
		i := r.below(n)
		g[i] = append(g[i], r.below(n))
		switch r.below(8) {
		case 0:
			g[i] = append(g[i], g[i][r.below(len(g[i]))])
		case 1:
			l := noNodes(n)
			g[i] = append(g[i], l[r.below(len(l))])
		}
	}
	return g
}

// circles draws circles, some of one node, some nodes that are in none, and edges from each to some that come behind it; the nodes are numbered in a drawn order. Beside the graph it answers its parts.
func (r *random) circles(most int) (g, parts [][]int) {
	n := 1 + r.below(most)
	g = make([][]int, n)
	for first := 0; first < n; {
		size := min(1+r.below(6), n-first)
		if size > 1 || r.below(2) == 0 {
			part := upTo(n)[first : first+size]
			for i, k := range part {
				g[k] = append(g[k], part[(i+1)%size])
			}
			parts = append(parts, part)
		}
		for i := range first + size {
			if first+size < n && r.below(4) == 0 {
				g[i] = append(g[i], first+size+r.below(n-first-size))
			}
		}
		first += size
	}
	to := shuffled(r, upTo(n))
	g = renamed(g, to)
	for i := range g {
		g[i] = shuffled(r, g[i])
	}
	return g, renamedParts(parts, to)
}

// eachGraph hands out all graphs of at most three nodes, and drawn ones of more.
func eachGraph(seed random, hold func(g [][]int)) {
	for n := range 4 {
		for g := range everyGraph(n) {
			hold(g)
		}
	}
	r := seed
	for range 500 {
		hold(r.graph(24))
		g, _ := r.circles(24)
		hold(g)
	}
}
