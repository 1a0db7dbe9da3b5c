package overlap

import (
	"slices"
	"testing"

	"lodestone/api"
)

// laid is a row in which a variable's code was replaced by a term.
func laid(t []int, code int, by []int) []int {
	var l []int
	for _, c := range t {
		if c == code {
			l = append(l, by...)
		} else {
			l = append(l, c)
		}
	}
	return l
}

// plainUnify unifies the first two of some rows as textbooks do: where they first differ, a variable is bound, in all of the rows, so that one more variable is gone. It answers what becomes of the rows, which must stay small.
func plainUnify(sig []api.Symbol, rows [][]int) ([][]int, bool) {
	for !slices.Equal(rows[0], rows[1]) {
		at := 0
		for rows[0][at] == rows[1][at] {
			at++
		}
		x, y := partAt(sig, rows[0], at), partAt(sig, rows[1], at)
		if y[0] < x[0] { // a variable's code is below all symbols'
			x, y = y, x
		}
		if x[0] >= 0 || slices.Contains(y, x[0]) {
			return nil, false
		}
		code := x[0]
		y = slices.Clone(y)
		for i := range rows {
			rows[i] = laid(rows[i], code, y)
		}
	}
	return rows, true
}

// farOff gives all variables numbers that no term may have: so they are unlike all of another rule.
func farOff(t []int) []int {
	u := slices.Clone(t)
	for i, code := range u {
		if code < 0 {
			u[i] = code - 1<<40
		}
	}
	return u
}

// asMet numbers the variables of rows as they are met.
func asMet(rows ...[]int) [][]int {
	var met []int
	var l [][]int
	for _, t := range rows {
		u := slices.Clone(t)
		for i, code := range u {
			if code >= 0 {
				continue
			}
			if !slices.Contains(met, code) {
				met = append(met, code)
			}
			u[i] = -1 - slices.Index(met, code)
		}
		l = append(l, u)
	}
	return l
}

// plainOf reads the promise: the peak, what is ahead of the place in it, and both right sides are bound along with the two terms that are unified.
func plainOf(s api.System, outer, inner int) []api.Critical {
	a, b := s.Rules[outer], rule(farOff(s.Rules[inner].L), farOff(s.Rules[inner].R))
	var l []api.Critical
	for at, code := range a.L {
		if code < 0 || at == 0 && outer == inner {
			continue
		}
		rows, ok := plainUnify(s.Sig, [][]int{partAt(s.Sig, a.L, at), b.L, a.L[:at], a.L, a.R, b.R})
		if !ok {
			continue
		}
		spot := len(rows[2])
		peak, right := rows[3], rows[4]
		left := slices.Concat(peak[:spot], rows[5], peak[spot+len(rows[0]):])
		if max(len(peak), len(right), len(left)) > api.MaxNodes {
			l = append(l, tooBig(outer, inner, at))
			continue
		}
		told := asMet(left, right, peak)
		l = append(l, api.Critical{Outer: outer, Inner: inner, At: at, Spot: spot, L: told[0], R: told[1], Peak: told[2]})
	}
	return l
}

// plainAll is All of a right system.
func plainAll(s api.System) []api.Critical {
	var l []api.Critical
	for outer := range s.Rules {
		for inner := range s.Rules {
			l = append(l, plainOf(s, outer, inner)...)
		}
	}
	return l
}

// asPlain holds All and each Of against the promise, and tells how many pairs there are.
func asPlain(t *testing.T, s api.System) int {
	t.Helper()
	has(t, s, plainAll(s)...)
	for outer := range s.Rules {
		for inner := range s.Rules {
			meet(t, s, outer, inner, plainOf(s, outer, inner)...)
		}
	}
	if t.Failed() {
		t.FailNow()
	}
	return len(plainAll(s))
}

// TestSmallLeftSides lays all small left sides over each other.
func TestSmallLeftSides(t *testing.T) { // P17.1, P17.2
	n := 0
	var right [][]int
	for _, l := range smallTerms(5, 2) {
		if l[0] >= 0 {
			right = append(right, l)
		}
	}
	for _, a := range right {
		for _, b := range right {
			n += asPlain(t, over(rule(a, a), rule(b, row(0))))
		}
	}
	if n < 10000 {
		t.Errorf("only %d pairs", n)
	}
}

func TestDrawnSystems(t *testing.T) { // P17.1, P17.2
	r := random(1)
	n, moved := 0, 0
	for range 3000 {
		s := r.system()
		n += asPlain(t, s)
		for _, c := range plainAll(s) {
			if c.Spot != c.At {
				moved++
			}
		}
	}
	if n < 10000 || moved < 300 {
		t.Errorf("%d pairs, of %d the place moves", n, moved)
	}
}

// TestOtherNumbers: the numbers of a rule's variables are not to be seen in what is answered.
func TestOtherNumbers(t *testing.T) { // P17.1
	r := random(2)
	for range 1000 {
		s := r.system()
		other := api.System{Sig: s.Sig}
		for _, a := range s.Rules {
			other.Rules = append(other.Rules, renamed(a))
		}
		has(t, other, plainAll(s)...)
	}
}
