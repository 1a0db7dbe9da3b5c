package graph

import (
	"runtime/debug"
	"slices"
	"testing"
)

// longRow has an edge from each node to the next one.
func longRow(n int) [][]int {
	g := make([][]int, n)
	for i := range max(n-1, 0) {
		g[i] = row(i + 1)
	}
	return g
}

// lengths are those at which the walk begins anew once more, and far greater ones.
func lengths() []int {
	l := row(2, 10, 300000)
	for _, n := range row(deepest, 2*deepest, 3*deepest) {
		l = append(l, n-2, n-1, n, n+1, n+2)
	}
	return l
}

// holdNumbered holds a graph's parts with its nodes as they are, the other way round, and in a drawn order.
func holdNumbered(t *testing.T, r *random, what string, g, want [][]int) {
	t.Helper()
	holdLong(t, what, g, want)
	for _, to := range rows(backward(len(g)), shuffled(r, upTo(len(g)))) {
		holdLong(t, what+" numbered otherwise", renamed(g, to), renamedParts(want, to))
	}
}

func TestLongRow(t *testing.T) { // P14.1
	r := random(20)
	for _, n := range lengths() {
		g := longRow(n)
		holdNumbered(t, &r, "a row", g, nil)
		g[n-1] = row(n - 1)
		holdNumbered(t, &r, "a row with an edge from its end to itself", g, rows(row(n-1)))
		g[n-1] = row(n - 2)
		holdNumbered(t, &r, "a row with a circle at its end", g, rows(row(n-2, n-1)))
	}
}

func TestLongCircle(t *testing.T) { // P14.1
	r := random(21)
	for _, n := range lengths() {
		g := longRow(n)
		g[n-1] = row(0)
		holdNumbered(t, &r, "a circle", g, rows(upTo(n)))
		g[n-1] = row(1)
		holdNumbered(t, &r, "a row into a circle", g, rows(upTo(n)[1:]))
	}
}

// TestRowOfCircles: each node of the row leads back to the one ahead of it, or to itself.
func TestRowOfCircles(t *testing.T) { // P14.1
	r := random(22)
	for _, n := range lengths() {
		both, alone := longRow(n), longRow(n)
		var ones [][]int
		for i := range n {
			if i > 0 {
				both[i] = append(both[i], i-1)
			}
			alone[i] = append(alone[i], i)
			ones = append(ones, row(i))
		}
		holdNumbered(t, &r, "a row that leads both ways", both, rows(upTo(n)))
		holdNumbered(t, &r, "a row of edges to themselves", alone, ones)
	}
}

// TestRowWithEdgesBack: the parts of a row with edges back along it are where these lie one over the other.
func TestRowWithEdgesBack(t *testing.T) { // P14.1
	r := random(23)
	for _, n := range row(5, 20, 100, deepest+1, 3*deepest, 100000) {
		for _, far := range row(2, 20, n) {
			g := longRow(n)
			covered := make([]bool, n) // from each node to the next one: whether an edge leads back over it
			inPart := make([]bool, n)
			for range 1 + n/max(far, 4) {
				from := r.below(n)
				to := max(from-r.below(far), 0)
				g[from] = slices.Insert(g[from], r.below(len(g[from])+1), to)
				for i := to; i < from; i++ {
					covered[i] = true
				}
				inPart[from] = true
			}
			var want [][]int
			for i := range n {
				switch {
				case i > 0 && covered[i-1]:
					want[len(want)-1] = append(want[len(want)-1], i)
				case covered[i] || inPart[i]:
					want = append(want, row(i))
				}
			}
			holdNumbered(t, &r, "a row with edges back", g, want)
		}
	}
}

// TestBranchesOfALongRow: from each node of a row a short circle hangs, that is met ahead of the row's next node, or behind it; so the walk goes down anew on its way back.
func TestBranchesOfALongRow(t *testing.T) { // P14.1
	r := random(24)
	n := 3*deepest + 7
	for _, at := range row(0, 1) {
		g := longRow(n)
		var want [][]int
		for i := range n {
			k := len(g)
			g[i] = slices.Insert(g[i], min(at, len(g[i])), k)
			g = append(g, row(k+1), row(k+2), row(k))
			want = append(want, row(k, k+1, k+2))
		}
		holdNumbered(t, &r, "a row with circles at its sides", g, want)
		g[len(g)-1] = append(g[len(g)-1], 0)
		last := len(want) - 1
		want = slices.Concat(rows(slices.Concat(upTo(n), want[last])), want[:last])
		holdNumbered(t, &r, "a row with circles at its sides, the last one of which leads back", g, want)
	}
}

// TestLittleStack: rows and circles of any length are walked along with no more stack than short ones need; a walk that needs more ends the whole test.
func TestLittleStack(t *testing.T) { // R1
	defer debug.SetMaxStack(debug.SetMaxStack(8 << 20))
	n := 2000000
	g := longRow(n)
	holdLong(t, "a row", g, nil)
	g[n-1] = row(0)
	holdLong(t, "a circle", g, rows(upTo(n)))
}
