package cert

import (
	"slices"

	"lodestone/api"
	"lodestone/interp"
	"lodestone/lpo"
	"lodestone/prec"
)

// What an order says of a rule, in interp's numbers.
const (
	neither = 0
	stays   = 1
	falls   = 2
)

// order tells of a rule whether it falls, or stays, or neither.
type order func(r api.Rule) int

// byPaths is the path order over a precedence.
func byPaths(sig []api.Symbol, above [][2]int) order {
	p, e := prec.Close(len(sig), above)
	if e != api.OK {
		panic(api.Refuse)
	}
	return func(r api.Rule) int {
		switch {
		case slices.Equal(r.L, r.R):
			return stays
		case lpo.Greater(sig, p, r.L, r.R):
			return falls
		}
		return neither
	}
}

// byWorth is the order by what terms are worth under an interpretation.
func byWorth(sig []api.Symbol, l []api.Interp) order {
	if interp.Check(sig, l) != api.OK {
		panic(api.Refuse)
	}
	return func(r api.Rule) int {
		n, e := interp.Falls(sig, l, r)
		if e != api.OK { // as l is taken, and the rule's sides are terms, it is ErrTooBig
			panic(api.TooBig)
		}
		return n
	}
}

// drops tells whether a rule falls; one that does not has to stay.
func (o order) drops(r api.Rule) bool {
	says := o(r)
	if says == neither {
		panic(api.Refuse)
	}
	return says == falls
}
