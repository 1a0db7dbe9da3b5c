package cert

import (
	"lodestone/api"
	"lodestone/graph"
	"lodestone/interp"
	"lodestone/pairs"
)

// theory is what nodes are held for: a right system, and, where the first node asks for them, its dependency pairs.
type theory struct {
	system   api.System
	extended []api.Symbol
	pairs    []api.Rule
	follow   [][]int // of each pair the numbers of those that may follow it
}

// first holds the first node, and answers the parts for which its kids are to be held.
func (t *theory) first(node api.Node) [][]int {
	switch node.Kind {
	case api.CertLpo:
		t.allFall(byPaths(t.system.Sig, node.Prec))
		return nil
	case api.CertPoly:
		if !interp.Strict(t.system.Sig, node.Ints) {
			panic(api.Refuse)
		}
		t.allFall(byWorth(t.system.Sig, node.Ints))
		return nil
	case api.CertPairs:
		t.findPairs()
		return graph.Parts(t.follow)
	}
	panic(api.Refuse)
}

// below holds a node below for a part, which is told by its pairs' numbers, and answers those for which its kids are to be held.
func (t *theory) below(node api.Node, part []int) [][]int {
	switch node.Kind {
	case api.ProcLpo:
		return t.left(part, byPaths(t.extended, node.Prec))
	case api.ProcPoly:
		return t.left(part, byWorth(t.extended, node.Ints))
	}
	panic(api.Refuse)
}

func (t *theory) allFall(o order) {
	for _, rule := range t.system.Rules {
		if o(rule) != falls {
			panic(api.Refuse)
		}
	}
}

func (t *theory) findPairs() {
	l, e := pairs.Of(t.system)
	if e != api.OK { // as the system is right, it is ErrTooBig
		panic(api.TooBig)
	}
	t.pairs = l
	t.follow = pairs.Graph(t.system, l)
	t.extended, _ = pairs.Extend(t.system.Sig)
}

// left are the parts of what an order leaves of a part, when it has taken out what falls.
func (t *theory) left(part []int, o order) [][]int {
	for _, rule := range t.system.Rules {
		o.drops(rule)
	}
	// Whether one pair may follow another one hangs on these two alone, so the graph of those that stay is had from that of all: the others get no edges, and so lie on no circle.
	follow := make([][]int, len(t.follow))
	fallen := 0
	for _, p := range part {
		if o.drops(t.pairs[p]) {
			fallen++
		} else {
			follow[p] = t.follow[p]
		}
	}
	if fallen == 0 {
		panic(api.Refuse)
	}
	return graph.Parts(follow)
}
