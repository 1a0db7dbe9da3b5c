package graph

import (
	"math"
	"slices"
	"testing"
)

func row(l ...int) []int { return l }

func rows(l ...[]int) [][]int { return l }

// upTo are the numbers from 0 to n - 1.
func upTo(n int) []int {
	var l []int
	for i := range n {
		l = append(l, i)
	}
	return l
}

// backward numbers nodes from the last one on.
func backward(n int) []int {
	to := upTo(n)
	slices.Reverse(to)
	return to
}

// noNodes are numbers that no node of a graph of n nodes has; cut to fewer bits, or turned round, some of them would be one's.
func noNodes(n int) []int {
	return []int{-1, -2, -n, -n - 1, n, n + 1, 2 * n, 1 << 20, 1 << 32, 1<<32 + n - 1, -1 << 32, 1<<62 + 1, math.MinInt, math.MinInt + 1, math.MaxInt - 1, math.MaxInt}
}

func copied(g [][]int) [][]int {
	var out [][]int
	for _, l := range g {
		out = append(out, slices.Clone(l))
	}
	return out
}

func sameRows(a, b [][]int) bool { return slices.EqualFunc(a, b, slices.Equal[[]int]) }

// plainWays tells of each two nodes whether there is a way from the first to the second: a row of edges, one at least.
func plainWays(g [][]int) [][]bool {
	ways := make([][]bool, len(g))
	for i, l := range g {
		ways[i] = make([]bool, len(g))
		for _, k := range l {
			if k >= 0 && k < len(g) {
				ways[i][k] = true
			}
		}
	}
	for by := range g {
		for i := range g {
			for k := range g {
				ways[i][k] = ways[i][k] || ways[i][by] && ways[by][k]
			}
		}
	}
	return ways
}

// plainParts reads P14.1 word by word.
func plainParts(g [][]int) [][]int {
	ways := plainWays(g)
	told := make([]bool, len(g))
	var parts [][]int
	for i := range g {
		if !ways[i][i] || told[i] {
			continue
		}
		var part []int
		for k := range g {
			if ways[i][k] && ways[k][i] {
				part = append(part, k)
				told[k] = true
			}
		}
		parts = append(parts, part)
	}
	return parts
}

// has holds which parts a graph has.
func has(t *testing.T, g [][]int, want ...[]int) {
	t.Helper()
	if got := Parts(g); !sameRows(got, want) {
		t.Errorf("Parts(%v): %v, want %v", g, got, want)
	}
}

// holdPlain holds a graph's parts against the plain reading, and answers them.
func holdPlain(t *testing.T, g [][]int) [][]int {
	t.Helper()
	got, want := Parts(g), plainParts(g)
	if !sameRows(got, want) {
		t.Fatalf("Parts(%v): %v, want %v", g, got, want)
	}
	return got
}

// holdLong holds the parts of a graph that is too great to be told.
func holdLong(t *testing.T, what string, g, want [][]int) {
	t.Helper()
	if got := Parts(g); !sameRows(got, want) {
		t.Fatalf("%s, of %d nodes: %d parts, want %d, or not the same nodes", what, len(g), len(got), len(want))
	}
}

// everyGraph goes through all graphs of n nodes whose edges are told once, rising.
func everyGraph(n int) func(yield func([][]int) bool) {
	return func(yield func([][]int) bool) {
		for set := range 1 << (n * n) {
			g := make([][]int, n)
			for edge := range n * n {
				if set>>edge&1 == 1 {
					g[edge/n] = append(g[edge/n], edge%n)
				}
			}
			if !yield(g) {
				return
			}
		}
	}
}

// everyOrder goes through all orders of the numbers from 0 to n - 1.
func everyOrder(n int) [][]int {
	if n == 0 {
		return rows(nil)
	}
	var all [][]int
	for _, l := range everyOrder(n - 1) {
		for at := range n {
			all = append(all, slices.Insert(slices.Clone(l), at, n-1))
		}
	}
	return all
}

// turned has each edge turned round; numbers that are no node's are gone.
func turned(g [][]int) [][]int {
	out := make([][]int, len(g))
	for i, l := range g {
		for _, k := range l {
			if k >= 0 && k < len(g) {
				out[k] = append(out[k], i)
			}
		}
	}
	return out
}

// renamed gives each node i the number to[i]; numbers that are no node's stay.
func renamed(g [][]int, to []int) [][]int {
	out := make([][]int, len(g))
	for i, l := range g {
		for _, k := range l {
			if k >= 0 && k < len(g) {
				k = to[k]
			}
			out[to[i]] = append(out[to[i]], k)
		}
	}
	return out
}

// renamedParts are parts with each node i as to[i], in the order in which they are told.
func renamedParts(parts [][]int, to []int) [][]int {
	var out [][]int
	for _, part := range parts {
		var l []int
		for _, i := range part {
			l = append(l, to[i])
		}
		slices.Sort(l)
		out = append(out, l)
	}
	slices.SortFunc(out, func(a, b []int) int { return a[0] - b[0] })
	return out
}

// homes tells of each node the number of its part, and -1, if it is in none.
func homes(t *testing.T, g, parts [][]int) []int {
	t.Helper()
	home := slices.Repeat(row(-1), len(g))
	for number, part := range parts {
		for _, i := range part {
			if home[i] >= 0 {
				t.Fatalf("Parts(%v): %v: %d is in two", g, parts, i)
			}
			home[i] = number
		}
	}
	return home
}
