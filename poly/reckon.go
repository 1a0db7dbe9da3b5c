package poly

import (
	"math/bits"

	"lodestone/api"
	"lodestone/nat"
)

// sum takes polynomials in bounds, and so does product.
func sum(p, q []api.Mono) ([]api.Mono, api.Errno) {
	all := likes{}
	if e := all.putAll(p); e != api.OK {
		return nil, e
	}
	if e := all.putAll(q); e != api.OK {
		return nil, e
	}
	return all.row(), api.OK
}

func product(p, q []api.Mono) ([]api.Mono, api.Errno) {
	all := likes{}
	for _, m := range p {
		left := packed(m.Exps)
		for _, n := range q {
			key, e := raised(left, n.Exps)
			if e != api.OK {
				return nil, e
			}
			coef, e := nat.Mul(m.Coef, n.Coef)
			if e == api.OK {
				e = all.put(key, coef)
			}
			if e != api.OK {
				return nil, e
			}
		}
	}
	return all.row(), api.OK
}

// raised are the exponents of a product of two monomials.
func raised(key exponents, exps []int) (exponents, api.Errno) {
	for i, n := range exps {
		key[i] += byte(n)
		if key[i] > api.MaxDegree {
			return exponents{}, api.ErrTooBig
		}
	}
	return key, api.OK
}

// worth is a coefficient times the powers of factors, which are polynomials or naturals: 0 is the row without parts of both. A factor 0 is looked for ahead: with it no other one can be too big.
func worth[T any](coef []T, exps []int, factors [][]T, times func(a, b []T) ([]T, api.Errno)) ([]T, api.Errno) {
	for i, n := range exps {
		if n > 0 && len(factors[i]) == 0 {
			return nil, api.OK
		}
	}
	for i, n := range exps {
		if n == 0 {
			continue
		}
		factor, e := power(factors[i], n, times)
		if e == api.OK {
			coef, e = times(coef, factor)
		}
		if e != api.OK {
			return nil, e
		}
	}
	return coef, api.OK
}

// power goes down the bits of n, from 1 on. So no power above the n-th is reckoned, which might be too big alone.
func power[T any](a []T, n int, times func(a, b []T) ([]T, api.Errno)) ([]T, api.Errno) {
	out := a
	for bit := bits.Len(uint(n)) - 2; bit >= 0; bit-- {
		square, e := times(out, out)
		if e == api.OK && n>>bit&1 == 1 {
			square, e = times(square, a)
		}
		if e != api.OK {
			return nil, e
		}
		out = square
	}
	return out, api.OK
}
