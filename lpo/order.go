package lpo

import "lodestone/prec"

// places are a node's in one term, and a node's in another one.
type places struct{ s, t int }

type answer struct{ greater bool }

// order is the path order among the parts of two terms. What it was asked of two places it knows from then on: two parts are come to by many ways, and to look anew each time would multiply the work with each level of the terms.
type order struct {
	prec  *prec.Prec
	known map[places]answer
}

func newOrder(p *prec.Prec) order { return order{p, map[places]answer{}} }

// greater calls itself at most as deep as both terms have nodes together, and none of them is too big.
func (o order) greater(s, t tree) bool {
	if isVariable(s) {
		return false
	}
	at := places{s.place(), t.place()}
	if was, ok := o.known[at]; ok {
		return was.greater
	}
	now := answer{o.compare(s.(*application), t)}
	o.known[at] = now
	return now.greater
}

func (o order) compare(s *application, t tree) bool {
	if o.hasAtLeast(s.args, t) {
		return true
	}
	b, ok := t.(*application)
	return ok && o.leads(s, b) && o.greaterThanAll(s, b.args)
}

// hasAtLeast tells whether one of some terms is t, or greater.
func (o order) hasAtLeast(terms []tree, t tree) bool {
	for _, u := range terms {
		if same(u, t) || o.greater(u, t) {
			return true
		}
	}
	return false
}

// leads tells whether s is ahead of t by the symbols at their roots, or, where these are the same, by the arguments.
func (o order) leads(s, t *application) bool {
	if s.symbol() == t.symbol() {
		return o.firstUnlikeIsGreater(s.args, t.args)
	}
	return o.prec.Above(s.symbol(), t.symbol())
}

// firstUnlikeIsGreater looks at the first two alone that are not the same: no term is greater than itself, so none ahead of them can be, and those behind do not count.
func (o order) firstUnlikeIsGreater(a, b []tree) bool {
	for i := range a {
		if !same(a[i], b[i]) {
			return o.greater(a[i], b[i])
		}
	}
	return false
}

func (o order) greaterThanAll(s tree, terms []tree) bool {
	for _, t := range terms {
		if !o.greater(s, t) {
			return false
		}
	}
	return true
}
