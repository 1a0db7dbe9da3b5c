package unify

import (
	"slices"

	"lodestone/api"
)

// tree is a term as a tree: which of the two its root is, a variable or an application, is asked by assertions.
type tree interface {
	class() *class
}

type variable struct {
	number int
	home   *class
}

type application struct {
	symbol int
	args   []tree
	home   *class
}

func (v *variable) class() *class { return v.home.whole() }

func (a *application) class() *class { return a.home.whole() }

func newVariable(number int) *variable {
	v := &variable{number: number}
	v.home = newClass(v)
	return v
}

func newApplication(symbol int, args []tree) *application {
	a := &application{symbol: symbol, args: args}
	a.home = newClass(a)
	return a
}

// grow makes the tree of a right term; a variable is one node, wherever it stands. It goes from the back to the front: so the arguments of a symbol are there when it is met, and no depth of a term needs a deep stack.
func grow(sig []api.Symbol, t []int, vars map[int]*variable) tree {
	var grown []tree // what begins first in the row is the last one here
	for _, code := range slices.Backward(t) {
		if code < 0 {
			grown = append(grown, variableOf(vars, -1-code))
			continue
		}
		rest := len(grown) - sig[code].Arity
		args := slices.Clone(grown[rest:])
		slices.Reverse(args)
		grown = append(grown[:rest], newApplication(code, args))
	}
	return grown[0]
}

func variableOf(vars map[int]*variable, number int) *variable {
	v, ok := vars[number]
	if !ok {
		v = newVariable(number)
		vars[number] = v
	}
	return v
}
