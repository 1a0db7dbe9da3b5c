package prec

import "lodestone/api"

// maxSymbols leaves room for a marked symbol beside each one of a signature.
const maxSymbols = 2 * api.MaxSymbols

const wordBits = 64

// row has a bit for each symbol that is below one.
type row [maxSymbols / wordBits]uint64

func (r row) has(g int) bool { return r[g/wordBits]>>(g%wordBits)&1 == 1 }

func (r row) with(g int) row {
	r[g/wordBits] |= 1 << (g % wordBits)
	return r
}

func (r row) withAll(other row) row {
	for i, word := range other {
		r[i] |= word
	}
	return r
}

// table has a row for each symbol.
type table [maxSymbols]row

// closed goes on until the rows stay as they were: they only ever gain bits, so this ends.
func (t table) closed() table {
	for {
		was := t
		for f := range maxSymbols {
			for g := range maxSymbols {
				if t[f].has(g) {
					t[f] = t[f].withAll(t[g])
				}
			}
		}
		if t == was {
			return t
		}
	}
}

func (t table) hasCycle() bool {
	for f, r := range t {
		if r.has(f) {
			return true
		}
	}
	return false
}
