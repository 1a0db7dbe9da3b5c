package lpo

import (
	"slices"

	"lodestone/api"
)

// tree is a term as a tree: which of the two its root is, a variable or an application, is asked by assertions.
type tree interface {
	place() int
	row() []int
}

// node is what both have: a place in the whole term, and the piece of its row that begins there.
type node struct {
	at    int
	codes []int
}

func (n node) place() int { return n.at }

func (n node) row() []int { return n.codes }

type variable struct {
	node
}

type application struct {
	node
	args []tree
}

func (a *application) symbol() int { return a.codes[0] }

// apply makes the tree of the symbol that stands at a place of a row, and of the arguments that stand behind it.
func apply(row []int, at int, args []tree) tree {
	end := at + 1
	for _, arg := range args {
		end += len(arg.row())
	}
	return &application{node{at, row[at:end]}, args}
}

// grow makes the tree of a right term. It goes from the back to the front: so the arguments of a symbol are there when it is met.
func grow(sig []api.Symbol, t []int) tree {
	var grown []tree // what begins first in the row is the last one here
	for at, code := range slices.Backward(t) {
		if code < 0 {
			grown = append(grown, variable{node{at, t[at : at+1]}})
			continue
		}
		rest := len(grown) - sig[code].Arity
		args := slices.Clone(grown[rest:])
		slices.Reverse(args)
		grown = append(grown[:rest], apply(t, at, args))
	}
	return grown[0]
}

func isVariable(t tree) bool {
	_, ok := t.(variable)
	return ok
}

func same(a, b tree) bool { return slices.Equal(a.row(), b.row()) }
