package term

import (
	"slices"

	"lodestone/api"
)

// tree is a term as a tree: which of the two its root is, a variable or an application, is asked by assertions.
type tree interface {
	nodes() int
}

type variable struct{}

type application struct {
	args []tree
	size int
}

func (variable) nodes() int { return 1 }

func (a *application) nodes() int { return a.size }

func apply(args []tree) tree {
	size := 1
	for _, arg := range args {
		size += arg.nodes()
	}
	return &application{args, size}
}

// grow makes the tree of a right term. It goes from the back to the front: so the arguments of a symbol are there when it is met, and no depth of a term needs a deep stack.
func grow(sig []api.Symbol, t []int) tree {
	var grown []tree // what begins first in the row is the last one here
	for _, code := range slices.Backward(t) {
		if code < 0 {
			grown = append(grown, variable{})
			continue
		}
		rest := len(grown) - sig[code].Arity
		args := slices.Clone(grown[rest:])
		slices.Reverse(args)
		grown = append(grown[:rest], apply(args))
	}
	return grown[0]
}

// kidsOf are the places of the arguments of a node that stands at a place.
func kidsOf(node tree, at int) []int {
	a, ok := node.(*application)
	if !ok {
		return nil
	}
	var kids []int
	place := at + 1
	for _, arg := range a.args {
		kids = append(kids, place)
		place += arg.nodes()
	}
	return kids
}

// placesAbove goes down from the root to a place that the tree has.
func placesAbove(root tree, at int) []int {
	var above []int
	node, place := root, 0
	for place != at {
		above = append(above, place)
		place++
		// The place is below this node, so it can't be a variable.
		args := node.(*application).args
		for at >= place+args[0].nodes() {
			place += args[0].nodes()
			args = args[1:]
		}
		node = args[0]
	}
	return above
}
