package overlap

import (
	"slices"

	"lodestone/api"
	"lodestone/subst"
)

// sides are the three terms of a critical pair, and the place of the inner rule in the peak; or why they are not told. The term over which the inner rule is laid stands in the outer one's left side from at to end.
func sides(sig []api.Symbol, outer, inner api.Rule, at, end int, binds []api.Bind) api.Critical {
	// Laid in ahead of the binds, the inner rule's right side becomes what it is within the peak.
	rewritten := slices.Concat(outer.L[:at], inner.R, outer.L[end:])
	made, e := become(sig, binds, rewritten, outer.R, outer.L)
	if e != api.OK {
		return api.Critical{Code: e}
	}
	return api.Critical{Spot: nodesOf(binds, outer.L[:at]), L: made[0], R: made[1], Peak: made[2]}
}

// become are what binds make of right terms, the variables numbered as they are met.
func become(sig []api.Symbol, binds []api.Bind, terms ...[]int) ([][]int, api.Errno) {
	var made [][]int
	for _, t := range terms {
		u, e := subst.Apply(sig, binds, t)
		if e != api.OK {
			return nil, e
		}
		made = append(made, u)
	}
	return subst.Canon(made...), api.OK
}

// nodesOf counts what binds make of a row, which need not be a whole term.
func nodesOf(binds []api.Bind, row []int) int {
	bound := map[int]int{}
	for _, b := range binds {
		bound[-1-b.Var] = len(b.T)
	}
	nodes := 0
	for _, code := range row {
		n, ok := bound[code]
		if !ok {
			n = 1
		}
		nodes += n
	}
	return nodes
}
