package pairs

import (
	"slices"
	"testing"

	"lodestone/api"
	"lodestone/step"
)

// leads holds that there is an edge to a left side of which binds make a term that p.R comes to.
func leads(t *testing.T, s api.System, p api.Rule, came, l []int) {
	t.Helper()
	if !Edge(s, p, rule(l, nil)) {
		t.Fatalf("Edge(%v, %v, %v): false, though it comes to %v", s, p, l, came)
	}
}

// TestEstimatedSmall tries small sides, small binds and all rewritings of two steps against the small left sides.
func TestEstimatedSmall(t *testing.T) { // P13.5
	terms := smallTerms(2, 1)
	var lefts []api.Rule
	for _, side := range smallSides() {
		lefts = append(lefts, rule(side, nil))
	}
	matched := 0
	for _, s := range smallSystems() {
		for i, side := range smallSides() {
			if i%7 > 0 {
				continue
			}
			edges := Graph(s, append(rules(rule(nil, side)), lefts...))[0]
			for _, a := range terms {
				for _, b := range terms {
					for _, u := range within(s, made([]api.Bind{bind(0, a...), bind(1, b...)}, side), 2) {
						matched += holdMatches(t, s, u, lefts, edges)
					}
				}
			}
		}
	}
	if matched < 100000 {
		t.Errorf("only %d matched", matched)
	}
}

// within are the terms that a term becomes by at most so many steps below its root.
func within(s api.System, u []int, steps int) [][]int {
	came := [][]int{u}
	if steps == 0 {
		return came
	}
	for _, v := range allSteps(s, u) {
		came = append(came, within(s, v, steps-1)...)
	}
	return came
}

// holdMatches holds the edges to left sides that a term is made of by binds, and counts these; the edges' numbers are greater by 1 than theirs.
func holdMatches(t *testing.T, s api.System, u []int, lefts []api.Rule, edges []int) int {
	t.Helper()
	matched := 0
	for k, q := range lefts {
		if q.L[0] != u[0] {
			continue
		}
		if _, ok := plainBinds(s.Sig, q.L, u); !ok {
			continue
		}
		matched++
		if _, found := slices.BinarySearch(edges, k+1); !found {
			t.Fatalf("%v: no edge to %v, though it comes to %v", s, q.L, u)
		}
	}
	return matched
}

// TestEstimatedDrawn: what a drawn side comes to is made more general: that has an edge from it, whatever numbers its variables have.
func TestEstimatedDrawn(t *testing.T) { // P13.5
	r := random(5)
	rewritten, apart := 0, 0
	for range 5000 {
		s := r.system()
		p := rule(nil, r.side(s))
		bound := made(r.binds(func() []int { return r.subject(s, 1+r.below(5)) }), p.R)
		came := r.rewritten(s, bound, r.below(8))
		if len(came) > api.MaxNodes {
			continue
		}
		l, binds := r.general(s.Sig, came)
		if !slices.Equal(made(binds, l), came) {
			t.Fatalf("%v by %v is not %v", l, binds, came)
		}
		leads(t, s, p, came, l)
		leads(t, s, p, came, shifted(l, 512))
		leads(t, s, p, came, shifted(l, api.MaxVar-600))
		leads(t, s, p, came, came)
		if !slices.Equal(came, bound) {
			rewritten++
		}
		if !plainCan(s.Sig, shifted(p.R, 1<<40), l) {
			apart++
		}
	}
	if rewritten < 1500 || apart < 300 {
		t.Errorf("only %d were rewritten, %d such as the side itself is not unified with", rewritten, apart)
	}
}

// shifted gives each variable a number that is greater by as much.
func shifted(t []int, by int) []int {
	u := slices.Clone(t)
	for i := range u {
		if u[i] < 0 {
			u[i] -= by
		}
	}
	return u
}

// TestEstimatedChains: of a system's own pairs one that can follow another one, behind drawn binds and rewritings, has an edge from it.
func TestEstimatedChains(t *testing.T) { // P13.5
	r := random(6)
	links := 0
	for range 3000 {
		s := r.system()
		l, e := Of(s)
		if e != api.OK {
			t.Fatal(e)
		}
		g := Graph(s, l)
		for i, p := range l {
			bound := made(r.binds(func() []int { return r.subject(s, 1+r.below(5)) }), p.R)
			came := r.rewritten(s, bound, r.below(6))
			for k, q := range l {
				if q.L[0] != came[0] {
					continue
				}
				if _, ok := plainBinds(s.Sig, q.L, came); !ok {
					continue
				}
				links++
				if !slices.Contains(g[i], k) {
					t.Fatalf("Graph(%v): no edge from %v to %v, though it comes to %v", s, p, q, came)
				}
			}
		}
	}
	if links < 1000 {
		t.Errorf("only %d links", links)
	}
}

// TestEstimatedBySteps rewrites by layer 8, over a signature in which the marked symbols have names of their own.
func TestEstimatedBySteps(t *testing.T) { // P13.5
	r := random(7)
	done := 0
	for range 1000 {
		s := r.system()
		sig, e := Extend(s.Sig)
		if e != api.OK {
			t.Fatal(e)
		}
		p := rule(nil, r.side(s))
		came := made(r.binds(func() []int { return r.subject(s, 1+r.below(4)) }), p.R)
		twin := api.System{Sig: unmarked(sig), Rules: s.Rules}
		for range 4 {
			redexes := step.All(twin, came)
			if len(redexes) == 0 {
				break
			}
			next, e := step.Do(twin, came, redexes[r.below(len(redexes))])
			if e != api.OK {
				break
			}
			came = next
			done++
			l, _ := r.general(s.Sig, came)
			leads(t, s, p, came, l)
		}
	}
	if done < 500 {
		t.Errorf("only %d steps", done)
	}
}
