package system

import (
	"slices"

	"lodestone/api"
	"lodestone/match"
)

// shape is what rules must have alike to be variants, and is cheap to ask: a right rule's root is a symbol, and no renaming changes how many nodes there are.
type shape struct{ root, left, right int }

func shapeOf(rule api.Rule) shape {
	return shape{rule.L[0], len(rule.L), len(rule.R)}
}

// arePaired takes lists of equal length, of right rules. To be a variant is an equivalence, so whichever variant a rule takes, the others lose nothing by it.
func arePaired(sig []api.Symbol, a, b []api.Rule) bool {
	open := byShape(b)
	for _, rule := range a {
		key := shapeOf(rule)
		i := slices.IndexFunc(open[key], func(other api.Rule) bool { return match.Variant(sig, rule, other) })
		if i < 0 {
			return false
		}
		open[key] = slices.Delete(open[key], i, i+1)
	}
	return true
}

func byShape(rules []api.Rule) map[shape][]api.Rule {
	groups := map[shape][]api.Rule{}
	for _, rule := range rules {
		key := shapeOf(rule)
		groups[key] = append(groups[key], rule)
	}
	return groups
}
