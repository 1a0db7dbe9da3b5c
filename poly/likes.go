package poly

import (
	"bytes"
	"slices"

	"lodestone/api"
	"lodestone/nat"
)

// exponents are those of a monomial in bounds, a byte each: room enough for the sum of two of them (128), too. The order of these rows of bytes is that of the monomials.
type exponents [api.MaxNodes]byte

type coefficient struct{ limbs []uint32 }

// likes brings like monomials together.
type likes map[exponents]coefficient

// put adds a monomial to those that are like it. Nothing that is added later makes less of what is here, so a bound that is passed stays passed.
func (l likes) put(key exponents, coef []uint32) api.Errno {
	limbs, e := nat.Add(l[key].limbs, coef)
	if e != api.OK {
		return e
	}
	l[key] = coefficient{limbs}
	if len(l) > api.MaxMonomials {
		return api.ErrTooBig
	}
	return api.OK
}

func (l likes) putAll(p []api.Mono) api.Errno {
	for _, m := range p {
		if e := l.put(packed(m.Exps), m.Coef); e != api.OK {
			return e
		}
	}
	return api.OK
}

// row is the polynomial; its coefficients are in memory of their own, as put made them.
func (l likes) row() []api.Mono {
	keys := make([]exponents, 0, len(l))
	for key := range l {
		keys = append(keys, key)
	}
	slices.SortFunc(keys, func(a, b exponents) int { return bytes.Compare(a[:], b[:]) })
	var p []api.Mono
	for _, key := range keys {
		p = append(p, api.Mono{Coef: l[key].limbs, Exps: unpacked(key)})
	}
	return p
}

func packed(exps []int) exponents {
	var key exponents
	for i, n := range exps {
		key[i] = byte(n)
	}
	return key
}

// unpacked ends with the last exponent that is not 0.
func unpacked(key exponents) []int {
	n := len(key)
	for n > 0 && key[n-1] == 0 {
		n--
	}
	exps := make([]int, n)
	for i := range exps {
		exps[i] = int(key[i])
	}
	return exps
}
