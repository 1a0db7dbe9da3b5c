package pairs

import (
	"slices"
	"testing"

	"lodestone/api"
)

// plainBinds goes through a pattern and a term side by side: a variable takes the term that it comes to.
func plainBinds(sig []api.Symbol, l, part []int) ([]api.Bind, bool) {
	var binds []api.Bind
	place := 0
	for _, code := range l {
		here := partAt(sig, part, place)
		i := slices.IndexFunc(binds, func(b api.Bind) bool { return b.Var == -1-code })
		switch {
		case code >= 0 && here[0] != code, code < 0 && i >= 0 && !slices.Equal(binds[i].T, here):
			return nil, false
		case code >= 0:
			place++
		default:
			if i < 0 {
				binds = append(binds, bind(-1-code, here...))
			}
			place += len(here)
		}
	}
	return binds, true
}

// allSteps are what a term over the extended signature becomes by one step below its root, each way.
func allSteps(s api.System, t []int) [][]int {
	var l [][]int
	for at := 1; at < len(t); at++ {
		part := partAt(s.Sig, t, at)
		for _, a := range s.Rules {
			if binds, ok := plainBinds(s.Sig, a.L, part); ok {
				l = append(l, slices.Concat(t[:at], made(binds, a.R), t[at+len(part):]))
			}
		}
	}
	return l
}

// ownVariable is one that no term may have: so it is unlike all that are handed in.
const ownVariable = -1 << 40

// plainCap reads the promise, from the root down.
func plainCap(s api.System, t []int) []int {
	next := ownVariable
	var below func(part []int) []int
	below = func(part []int) []int {
		defined := slices.ContainsFunc(s.Rules, func(a api.Rule) bool { return a.L[0] == part[0] })
		if part[0] < 0 || defined {
			next--
			return row(next)
		}
		c := row(part[0])
		for kid := 1; kid < len(part); {
			arg := partAt(s.Sig, part, kid)
			c = append(c, below(arg)...)
			kid += len(arg)
		}
		return c
	}
	c := row(t[0])
	for kid := 1; kid < len(t); {
		arg := partAt(s.Sig, t, kid)
		c = append(c, below(arg)...)
		kid += len(arg)
	}
	return c
}

// plainCan unifies as textbooks do: where the rows first differ, a variable is bound, in all that is there, so that one more variable is gone.
func plainCan(sig []api.Symbol, a, b []int) bool {
	for !slices.Equal(a, b) {
		at := 0
		for a[at] == b[at] {
			at++
		}
		x, y := partAt(sig, a, at), partAt(sig, b, at)
		if y[0] < x[0] { // a variable's code is below all symbols'
			x, y = y, x
		}
		if x[0] >= 0 || slices.Contains(y, x[0]) {
			return false
		}
		one := []api.Bind{bind(-1-x[0], y...)}
		a, b = made(one, a), made(one, b)
	}
	return true
}

// plainSide tells whether a row may stand in an edge.
func plainSide(sig []api.Symbol, t []int) bool {
	if len(t) == 0 || len(t) > api.MaxNodes || t[0] < len(sig) {
		return false
	}
	missing := 1
	for i, code := range t {
		if code < -api.MaxVar || code >= 2*len(sig) || missing == 0 {
			return false
		}
		missing += arityOf(sig, t[i]) - 1
	}
	return missing == 0
}

// plainEdge is Edge of a right system.
func plainEdge(s api.System, p, q api.Rule) bool {
	if !plainSide(s.Sig, p.R) || !plainSide(s.Sig, q.L) {
		return false
	}
	return plainCan(s.Sig, plainCap(s, p.R), q.L)
}

// plainGraph asks plainEdge of each two.
func plainGraph(s api.System, l []api.Rule) [][]int {
	var g [][]int
	for _, p := range l {
		var to []int
		for k, q := range l {
			if plainEdge(s, p, q) {
				to = append(to, k)
			}
		}
		g = append(g, to)
	}
	return g
}

func edgesOf(g [][]int) int { return len(slices.Concat(g...)) }

// TestSmallSides holds all small sides against each other.
func TestSmallSides(t *testing.T) { // P13.3, P13.4
	var l []api.Rule
	for _, side := range smallSides() {
		l = append(l, rule(side, side))
	}
	for _, s := range smallSystems() {
		want := plainGraph(s, l)
		follows(t, s, l, want...)
		if n := edgesOf(want); n < 1000 || n == len(l)*len(l) {
			t.Errorf("%v: %d edges of %d pairs", s, n, len(l))
		}
	}
}

// TestDrawnEdges has systems of their own pairs, and pairs that are none of theirs.
func TestDrawnEdges(t *testing.T) { // P13.3, P13.4
	r := random(3)
	edges, none := 0, 0
	for range 1000 {
		s := r.system()
		l := slices.Concat(plainPairs(s), r.pairs(s, 10))
		want := plainGraph(s, l)
		follows(t, s, l, want...)
		edges += edgesOf(want)
		none += len(l)*len(l) - edgesOf(want)
		for range 20 {
			i, k := r.below(len(l)), r.below(len(l))
			if Edge(s, l[i], l[k]) != slices.Contains(want[i], k) {
				t.Fatalf("Edge(%v, %v, %v): not %v", s, l[i], l[k], slices.Contains(want[i], k))
			}
		}
	}
	if edges < 10000 || none < 10000 {
		t.Errorf("%d edges, %d times none", edges, none)
	}
}
