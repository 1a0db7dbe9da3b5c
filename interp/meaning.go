package interp

import (
	"lodestone/api"
	"lodestone/poly"
)

// meaning is the polynomial of each code: of a symbol's by its place in the list, of a variable's by its code.
type meaning struct {
	sig       []api.Symbol
	symbols   [][]api.Mono
	variables map[int][]api.Mono
}

// newMeaning takes interpretations that are right, and variables as they are to be numbered. Of more than MaxNodes of them the last one's polynomial has more exponents than may be; each of them stands in a term, so that is too big whatever else is.
func newMeaning(sig []api.Symbol, l []api.Interp, vars []int) (meaning, api.Errno) {
	if len(vars) > api.MaxNodes {
		return meaning{}, api.ErrTooBig
	}
	m := meaning{sig, make([][]api.Mono, len(sig)), map[int][]api.Mono{}}
	for _, in := range l {
		m.symbols[in.Sym] = in.P
	}
	for number, v := range vars {
		m.variables[-1-v] = variable(number)
	}
	return m, api.OK
}

// variable is the polynomial that is a variable alone.
func variable(number int) []api.Mono {
	exps := make([]int, number+1)
	exps[number] = 1
	return []api.Mono{{Coef: []uint32{1}, Exps: exps}}
}

// of goes through a term from its back, so that the arguments of a symbol are met ahead of it. What waits stands at the end of the list, the first argument first: each one that comes is laid ahead of those that came before. A symbol's arguments are cut with a bound on their room: behind them stands what still waits for a symbol further up.
func (m meaning) of(t []int) ([]api.Mono, api.Errno) {
	list := make([][]api.Mono, len(t))
	top := len(t)
	for at := len(t) - 1; at >= 0; at-- {
		code := t[at]
		if code < 0 {
			top--
			list[top] = m.variables[code]
			continue
		}
		behind := top + m.sig[code].Arity
		p, e := poly.Compose(m.symbols[code], list[top:behind:behind])
		if e != api.OK {
			return nil, e
		}
		top = behind - 1
		list[top] = p
	}
	return list[top], api.OK
}
