package match

import (
	"slices"

	"lodestone/api"
)

// tree is a term as a tree: which of the two its root is, a variable or an application, is asked by assertions.
type tree interface {
	row() []int
}

type variable struct {
	codes []int
}

type application struct {
	codes []int
	args  []tree
}

func (v variable) row() []int { return v.codes }

func (v variable) number() int { return -1 - v.codes[0] }

func (a *application) row() []int { return a.codes }

func (a *application) symbol() int { return a.codes[0] }

// apply makes the tree of a symbol, with whose code a row begins, and of the arguments that stand behind it.
func apply(row []int, args []tree) tree {
	nodes := 1
	for _, arg := range args {
		nodes += len(arg.row())
	}
	return &application{row[:nodes], args}
}

// grow makes the tree of a right term. It goes from the back to the front: so the arguments of a symbol are there when it is met, and no depth of a term needs a deep stack.
func grow(sig []api.Symbol, t []int) tree {
	var grown []tree // what begins first in the row is the last one here
	for at, code := range slices.Backward(t) {
		if code < 0 {
			grown = append(grown, variable{t[at : at+1]})
			continue
		}
		rest := len(grown) - sig[code].Arity
		args := slices.Clone(grown[rest:])
		slices.Reverse(args)
		grown = append(grown[:rest], apply(t[at:], args))
	}
	return grown[0]
}

// pair is a part of a pattern, and the part of a term that it must become.
type pair struct{ pattern, part tree }

// boundRows are the rows that a pattern's variables must become, if some can; which pair is looked at first is all the same.
func boundRows(pattern, whole tree) (map[int][]int, bool) {
	bound := map[int][]int{}
	open := []pair{{pattern, whole}}
	for len(open) > 0 {
		next := open[len(open)-1]
		open = open[:len(open)-1]
		if v, ok := next.pattern.(variable); ok {
			if !bindAlike(bound, v.number(), next.part.row()) {
				return nil, false
			}
			continue
		}
		below, ok := argumentPairs(next.pattern.(*application), next.part)
		if !ok {
			return nil, false
		}
		open = append(open, below...)
	}
	return bound, true
}

// bindAlike binds a variable, or holds that it has this row already.
func bindAlike(bound map[int][]int, v int, row []int) bool {
	if was, ok := bound[v]; ok {
		return slices.Equal(was, row)
	}
	bound[v] = row
	return true
}

func argumentPairs(pattern *application, part tree) ([]pair, bool) {
	a, ok := part.(*application)
	if !ok || a.symbol() != pattern.symbol() {
		return nil, false
	}
	var pairs []pair
	for i, arg := range pattern.args {
		pairs = append(pairs, pair{arg, a.args[i]})
	}
	return pairs, true
}
