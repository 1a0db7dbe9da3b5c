package cert

import (
	"slices"
	"testing"

	"lodestone/api"
)

// TestDrawn holds what is answered to drawn systems and certificates, and to these with something changed, against the plain reading.
func TestDrawn(t *testing.T) { // P15.1
	r := random(2)
	count := map[api.Verdict]int{}
	kinds := map[int]int{}
	most, changed := 0, 0
	hold := func(s api.System, l []api.Node) api.Verdict {
		v := plainCheck(s, l)
		says(t, s, v, l...)
		count[v]++
		return v
	}
	for range 1000 {
		s := r.system()
		l := r.any(s)
		was := hold(s, l)
		if was == api.Accept {
			most = max(most, len(l))
			for _, node := range l {
				kinds[node.Kind]++
			}
		}
		for range 4 {
			if hold(s, r.changed(s, l)) != was {
				changed++
			}
		}
		more, less := s, s
		more.Rules = append(slices.Clone(s.Rules), r.rule())
		less.Rules = s.Rules[1:]
		hold(more, l)
		hold(less, l)
		hold(r.system(), l)
	}
	if count[api.Accept] < 1000 || count[api.Refuse] < 1000 || count[api.TooBig] < 50 {
		t.Errorf("verdicts: %v", count)
	}
	if len(kinds) < 5 || kinds[api.ProcLpo] < 50 || kinds[api.ProcPoly] < 100 || most < 5 || changed < 1000 {
		t.Errorf("kinds that were accepted %v, of at most %d nodes; %d changed", kinds, most, changed)
	}
}
