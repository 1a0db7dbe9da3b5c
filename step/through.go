package step

import (
	"lodestone/api"
	"lodestone/match"
)

// goThrough shows look the places of a right term, and the terms there, until look answers true; it tells whether that came. Those below a place are shown ahead of it, from the left to the right: so the first redex that is come to is the leftmost of the innermost ones.
func goThrough(sig []api.Symbol, t []int, look func(at int, part []int) bool) bool {
	// within goes through the term at a place, and tells where that ends, if nothing stopped it.
	var within func(at int) (end int, stopped bool)
	within = func(at int) (int, bool) {
		end := at + 1
		for range arity(sig, t[at]) {
			next, stopped := within(end)
			if stopped {
				return 0, true
			}
			end = next
		}
		return end, look(at, t[at:end])
	}
	_, stopped := within(0)
	return stopped
}

func arity(sig []api.Symbol, code int) int {
	if code < 0 {
		return 0
	}
	return sig[code].Arity
}

func matches(sig []api.Symbol, rule api.Rule, part []int) bool {
	if !beginsAlike(rule.L, part) {
		return false
	}
	_, ok := match.Match(sig, rule.L, part)
	return ok
}

// beginsAlike holds a left side against a term as far as its first variable: up to there binds change nothing. That is soon seen, and match.Match, which looks at the whole signature each time, is seldom asked in vain. No term is a beginning of a longer one, so the row does not end too early.
func beginsAlike(left, part []int) bool {
	for i, code := range left {
		if code < 0 {
			return true
		}
		if code != part[i] {
			return false
		}
	}
	return true
}
