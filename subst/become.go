package subst

import "lodestone/api"

// boundTerms answers what a variable becomes by right binds, and whether it has one at all.
func boundTerms(s []api.Bind) func(v int) ([]int, bool) {
	terms := make(map[int][]int, len(s))
	for _, b := range s {
		terms[b.Var] = b.T
	}
	return func(v int) ([]int, bool) {
		t, ok := terms[v]
		return t, ok
	}
}

// lay gives up as soon as there are too many nodes: laid in many places, great terms would fill all memory.
func lay(t []int, becomes func(v int) ([]int, bool)) ([]int, api.Errno) {
	var laid []int
	for i, code := range t {
		piece := t[i : i+1]
		if code < 0 {
			if bound, ok := becomes(-1 - code); ok {
				piece = bound
			}
		}
		if len(laid)+len(piece) > api.MaxNodes {
			return nil, api.ErrTooBig
		}
		laid = append(laid, piece...)
	}
	return laid, api.OK
}

// numbersAsMet answers the next number for a variable that it has not met, and for one that it has met the same as then.
func numbersAsMet() func(v int) int {
	numbers := map[int]int{}
	return func(v int) int {
		n, ok := numbers[v]
		if !ok {
			n = len(numbers)
			numbers[v] = n
		}
		return n
	}
}

func renumber(t []int, numberOf func(v int) int) []int {
	row := make([]int, len(t))
	for i, code := range t {
		row[i] = code
		if code < 0 {
			row[i] = -1 - numberOf(-1-code)
		}
	}
	return row
}
