// Package nat is layer 1: naturals of any size: see shared/doc/01-nat.md.
package nat

import (
	"slices"

	"lodestone/api"
)

const limbBits = 32

// Right tells whether limbs are a natural.
func Right(a []uint32) bool {
	if len(a) > api.MaxLimbs {
		return false
	}
	return len(a) == 0 || a[len(a)-1] != 0
}

// Of is a number as a natural.
func Of(n uint64) []uint32 {
	return trimmed([]uint32{uint32(n), uint32(n >> limbBits)})
}

// Add is a sum, Mul a product, Cmp which of two is greater.
func Add(a, b []uint32) ([]uint32, api.Errno) {
	if !Right(a) || !Right(b) {
		return nil, api.ErrNatForm
	}
	return inBounds(sum(a, b))
}

func Mul(a, b []uint32) ([]uint32, api.Errno) {
	if !Right(a) || !Right(b) {
		return nil, api.ErrNatForm
	}
	return inBounds(product(a, b))
}

func Cmp(a, b []uint32) (int, api.Errno) {
	if !Right(a) || !Right(b) {
		return 0, api.ErrNatForm
	}
	return order(a, b), api.OK
}

// Text is a natural in digits, Parse reads one.
func Text(a []uint32) (string, api.Errno) {
	if !Right(a) {
		return "", api.ErrNatForm
	}
	if len(a) == 0 {
		return "0", api.OK
	}
	// The caller's limbs must stay as they are, and these are divided in place.
	rest := make([]uint32, len(a))
	copy(rest, a)
	var digits []byte
	for len(rest) > 0 {
		digit := divideByTen(rest)
		digits = append(digits, byte('0'+digit))
		rest = trimmed(rest)
	}
	slices.Reverse(digits)
	return string(digits), api.OK
}

func Parse(s string) ([]uint32, api.Errno) {
	if !isNumeral(s) {
		return nil, api.ErrNatText
	}
	var a []uint32
	for i := range len(s) {
		a = withDigit(a, uint32(s[i]-'0'))
		// Another digit never makes it less, so a very long text need not be gone through.
		if len(a) > api.MaxLimbs {
			return nil, api.ErrTooBig
		}
	}
	return a, api.OK
}

// sum has room for the last carry, so its highest limb may be 0.
func sum(a, b []uint32) []uint32 {
	if len(a) < len(b) {
		a, b = b, a
	}
	out := make([]uint32, len(a)+1)
	copy(out, a)
	carry := uint64(0)
	for i := range a {
		carry += uint64(out[i])
		if i < len(b) {
			carry += uint64(b[i])
		}
		out[i] = uint32(carry)
		carry >>= limbBits
	}
	out[len(a)] = uint32(carry)
	return out
}

// product has room for all carries, so its highest limbs may be 0.
func product(a, b []uint32) []uint32 {
	out := make([]uint32, len(a)+len(b))
	for i := range a {
		carry := uint64(0)
		for j := range b {
			// At most (2^32-1)^2 + 2(2^32-1) = 2^64-1: it never wraps round.
			carry += uint64(a[i])*uint64(b[j]) + uint64(out[i+j])
			out[i+j] = uint32(carry)
			carry >>= limbBits
		}
		out[i+len(b)] = uint32(carry)
	}
	return out
}

// order takes naturals alone: without noughts on top the longer one is the greater one.
func order(a, b []uint32) int {
	if len(a) < len(b) {
		return -1
	}
	if len(a) > len(b) {
		return 1
	}
	for i := len(a) - 1; i >= 0; i-- {
		if a[i] < b[i] {
			return -1
		}
		if a[i] > b[i] {
			return 1
		}
	}
	return 0
}

// trimmed takes the noughts off the top.
func trimmed(a []uint32) []uint32 {
	n := len(a)
	for n > 0 && a[n-1] == 0 {
		n--
	}
	return a[:n]
}

func inBounds(a []uint32) ([]uint32, api.Errno) {
	a = trimmed(a)
	if len(a) > api.MaxLimbs {
		return nil, api.ErrTooBig
	}
	return a, api.OK
}

// divideByTen leaves the tenth part in the limbs, and answers what is over.
func divideByTen(a []uint32) uint64 {
	over := uint64(0)
	for i := len(a) - 1; i >= 0; i-- {
		over = over<<limbBits + uint64(a[i])
		a[i] = uint32(over / 10)
		over %= 10
	}
	return over
}

// withDigit is the number whose text has one digit more; it works in the limbs' own memory.
func withDigit(a []uint32, digit uint32) []uint32 {
	carry := uint64(digit)
	for i := range a {
		carry += uint64(a[i]) * 10
		a[i] = uint32(carry)
		carry >>= limbBits
	}
	if carry > 0 {
		a = append(a, uint32(carry))
	}
	return a
}

func isNumeral(s string) bool {
	if s == "" || len(s) > 1 && s[0] == '0' {
		return false
	}
	for i := range len(s) {
		if s[i] < '0' || s[i] > '9' {
			return false
		}
	}
	return true
}
