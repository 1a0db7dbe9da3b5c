package pairs

import (
	"lodestone/api"
	"lodestone/subst"
	"lodestone/system"
	"lodestone/term"
	"lodestone/unify"
)

// estimate is what a right system tells of its pairs.
type estimate struct {
	sig       []api.Symbol // the extended one
	unmarked  int          // how many symbols the system has: the marked ones have the codes from there on
	isDefined func(code int) bool
}

// newEstimate answers false for a system that is not right.
func newEstimate(s api.System) (estimate, bool) {
	if e, _ := system.Check(s); e != api.OK {
		return estimate{}, false
	}
	sig, e := Extend(s.Sig)
	return estimate{sig, len(s.Sig), definedBy(s)}, e == api.OK
}

// exit is the CAP of a pair's right side; nothing, if that side may not stand there.
func (est estimate) exit(p api.Rule) []int {
	if !est.mayStand(p.R) {
		return nil
	}
	return est.capOf(p.R)
}

// entry is a pair's left side, with variables that no CAP has; nothing, if that side may not stand there.
func (est estimate) entry(q api.Rule) []int {
	if !est.mayStand(q.L) {
		return nil
	}
	// Numbered anew, they are far below MaxVar, and so they are when they are shifted.
	row, _ := subst.Shift(subst.Canon(q.L)[0], api.MaxNodes)
	return row
}

func (est estimate) mayStand(t []int) bool {
	return len(t) <= api.MaxNodes && term.Check(est.sig, t) == api.OK && t[0] >= est.unmarked
}

// capOf takes a right term whose root is marked. What may be rewritten, or bound, becomes a variable; there are fewer of them than MaxNodes, numbered from 0 on.
func (est estimate) capOf(t []int) []int {
	row := []int{t[0]}
	variables := 0
	for at := 1; at < len(t); {
		if t[at] >= 0 && !est.isDefined(t[at]) {
			row = append(row, t[at])
			at++
			continue
		}
		row = append(row, -1-variables)
		variables++
		at += len(termAt(est.sig, t, at))
	}
	return row
}

// meet tells whether one pair's exit and another one's entry can be unified.
func (est estimate) meet(exit, entry []int) bool {
	return beginAlike(exit, entry) && unify.Can(est.sig, exit, entry)
}

// beginAlike holds two terms against each other as far as the first variable of one of them: up to there binds change nothing. That is soon seen, and unify.Can, which looks at the whole signature each time, is seldom asked in vain. As no term is a beginning of a longer one, two that differ nowhere are the same, if neither is nothing.
func beginAlike(a, b []int) bool {
	for i := range min(len(a), len(b)) {
		if a[i] < 0 || b[i] < 0 {
			return true
		}
		if a[i] != b[i] {
			return false
		}
	}
	return len(a) > 0 && len(b) > 0
}
