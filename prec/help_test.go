package prec

import (
	"math"
	"slices"
	"testing"

	"lodestone/api"
)

func pair(f, g int) [2]int { return [2]int{f, g} }

func pairs(l ...[2]int) [][2]int { return l }

// line is the pairs of symbols that stand one above the other, the highest first.
func line(symbols ...int) [][2]int {
	var l [][2]int
	for i := 1; i < len(symbols); i++ {
		l = append(l, pair(symbols[i-1], symbols[i]))
	}
	return l
}

// upTo are the numbers from 0 to n - 1.
func upTo(n int) []int {
	var l []int
	for i := range n {
		l = append(l, i)
	}
	return l
}

func downFrom(n int) []int {
	l := upTo(n)
	slices.Reverse(l)
	return l
}

// sizes are numbers of symbols, at the ends of what may be, and where a row's words part.
func sizes() []int { return []int{0, 1, 2, 3, 63, 64, 65, 127, 128} }

// noSymbols are numbers that no precedence of n symbols has.
func noSymbols(n int) []int {
	return []int{-1, -2, -64, -128, math.MinInt, n, n + 1, n + 63, n + 64, n + 128, 128, 129, 192, 200, 1 << 20, math.MaxInt - 1, math.MaxInt}
}

// plainBelow are the symbols that rows of pairs lead to from f: what a pair ends with, that begins with f or with one of these.
func plainBelow(l [][2]int, f int) map[int]bool {
	reached := map[int]bool{}
	for grown := true; grown; {
		grown = false
		for _, p := range l {
			if (p[0] == f || reached[p[0]]) && !reached[p[1]] {
				reached[p[1]], grown = true, true
			}
		}
	}
	return reached
}

// plainAbove tells of each two of n symbols whether one is above the other one.
func plainAbove(n int, l [][2]int) [][]bool {
	above := make([][]bool, n)
	for f := range n {
		reached := plainBelow(l, f)
		above[f] = make([]bool, n)
		for g := range n {
			above[f][g] = reached[g]
		}
	}
	return above
}

// plainErr reads P10.1 word by word.
func plainErr(n int, l [][2]int) api.Errno {
	if n < 0 || n > 128 {
		return api.ErrArg
	}
	for _, p := range l {
		if p[0] < 0 || p[0] > n-1 || p[1] < 0 || p[1] > n-1 {
			return api.ErrPrecSymbol
		}
	}
	for f := range n {
		if plainBelow(l, f)[f] {
			return api.ErrPrecCycle
		}
	}
	return api.OK
}

// closes is the precedence of what must be one.
func closes(t *testing.T, n int, l [][2]int) *Prec {
	t.Helper()
	p, e := Close(n, l)
	if e != api.OK || p == nil {
		t.Fatalf("Close(%d, %v): %v, %v", n, l, p, e)
	}
	return p
}

func refuses(t *testing.T, n int, l [][2]int, want api.Errno) {
	t.Helper()
	if p, e := Close(n, l); e != want || p != nil {
		t.Errorf("Close(%d, %v): %v, %v, want %v", n, l, p, e, want)
	}
}

// holds holds a precedence against what is above what, symbol by symbol.
func holds(t *testing.T, p *Prec, above [][]bool) {
	t.Helper()
	for f := range above {
		for g, want := range above[f] {
			if p.Above(f, g) != want {
				t.Fatalf("of %d symbols: Above(%d, %d): %v", len(above), f, g, !want)
			}
		}
	}
}

// holdPlain holds all that Close answers, and its precedence, against the plain reading; it tells whether there is one.
func holdPlain(t *testing.T, n int, l [][2]int) bool {
	t.Helper()
	if e := plainErr(n, l); e != api.OK {
		refuses(t, n, l, e)
		return false
	}
	holds(t, closes(t, n, l), plainAbove(n, l))
	return true
}

// nothingAbove holds that no number is above any other one.
func nothingAbove(t *testing.T, p *Prec, numbers []int) {
	t.Helper()
	for _, f := range numbers {
		for _, g := range numbers {
			if p.Above(f, g) {
				t.Errorf("%d above %d", f, g)
			}
		}
	}
}

// random draws the same numbers in each run.
type random uint64

func (r *random) below(n int) int {
	*r = *r*6364136223846793005 + 1442695040888963407
	return int(*r>>33) % n
}

// shuffled is a copy of a list in a drawn order.
func shuffled[T any](r *random, l []T) []T {
	l = slices.Clone(l)
	for i := range l {
		j := r.below(i + 1)
		l[i], l[j] = l[j], l[i]
	}
	return l
}

// order draws pairs of n symbols that are no cycle: each goes down a drawn line of all of them.
func (r *random) order(n, most int) [][2]int {
	down := shuffled(r, upTo(n))
	var l [][2]int
	for range r.below(most + 1) {
		if n < 2 {
			break
		}
		i := r.below(n - 1)
		l = append(l, pair(down[i], down[i+1+r.below(n-1-i)]))
	}
	return l
}

// someOf draws some of a list, in its order.
func (r *random) someOf(l [][2]int) [][2]int {
	var some [][2]int
	for _, p := range l {
		if r.below(3) > 0 {
			some = append(some, p)
		}
	}
	return some
}

// size draws a number of symbols: mostly few, now and then as many as there may be.
func (r *random) size() int {
	switch r.below(8) {
	case 0:
		return 128
	case 1:
		return 1 + r.below(128)
	}
	return 2 + r.below(9)
}

// eachOrder hands out pairs that are no cycle: all of four symbols, and drawn ones of more.
func eachOrder(seed random, hold func(n int, l [][2]int)) {
	for l := range everyPairs(4) {
		if plainErr(4, l) == api.OK {
			hold(4, l)
		}
	}
	r := seed
	for range 200 {
		n := r.size()
		hold(n, r.order(n, 2*n))
	}
}

// everyPairs goes through all sets of pairs of two unlike ones of n symbols.
func everyPairs(n int) func(yield func([][2]int) bool) {
	var whole [][2]int
	for f := range n {
		for g := range n {
			if f != g {
				whole = append(whole, pair(f, g))
			}
		}
	}
	return func(yield func([][2]int) bool) {
		for set := range 1 << len(whole) {
			var l [][2]int
			for i, p := range whole {
				if set>>i&1 == 1 {
					l = append(l, p)
				}
			}
			if !yield(l) {
				return
			}
		}
	}
}
