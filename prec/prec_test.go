package prec

import (
	"math"
	"slices"
	"testing"

	"lodestone/api"
)

func TestExamples(t *testing.T) { // P10.1, P10.2
	p := closes(t, 3, pairs(pair(2, 1), pair(1, 0)))
	if !p.Above(2, 0) || p.Above(0, 2) || p.Above(2, 2) || p.Above(2, 3) {
		t.Errorf("%v, %v, %v, %v", p.Above(2, 0), p.Above(0, 2), p.Above(2, 2), p.Above(2, 3))
	}
	refuses(t, 2, pairs(pair(0, 1), pair(1, 0)), api.ErrPrecCycle)
	refuses(t, 2, pairs(pair(0, 0)), api.ErrPrecCycle)
	refuses(t, 2, pairs(pair(0, 2)), api.ErrPrecSymbol)
	refuses(t, -1, nil, api.ErrArg)
	refuses(t, 129, nil, api.ErrArg)
	if closes(t, 0, nil).Above(0, 0) {
		t.Errorf("of no symbols one is above itself")
	}
}

// TestNumbers: the errors' numbers are those that the chapter's head tells.
func TestNumbers(t *testing.T) {
	if api.ErrArg != 1 || api.ErrPrecSymbol != 100 || api.ErrPrecCycle != 101 {
		t.Errorf("%d, %d, %d", api.ErrArg, api.ErrPrecSymbol, api.ErrPrecCycle)
	}
}

// TestHowMany: n is 0 to twice MaxSymbols.
func TestHowMany(t *testing.T) { // P10.1
	for n := range 2*api.MaxSymbols + 1 {
		closes(t, n, nil)
	}
	for _, n := range []int{-1, -2, -64, -128, math.MinInt, 2*api.MaxSymbols + 1, 2*api.MaxSymbols + 2, 192, 256, 1 << 32, math.MaxInt} {
		refuses(t, n, nil, api.ErrArg)
		refuses(t, n, pairs(), api.ErrArg)
	}
}

// TestPairsNumbers: each of a pair's numbers is 0 to n - 1, whichever of the two, and wherever the pair stands.
func TestPairsNumbers(t *testing.T) { // P10.1
	for _, n := range sizes() {
		var right [][2]int
		if n > 1 {
			right = pairs(pair(n-1, 0))
			if !closes(t, n, right).Above(n-1, 0) || !closes(t, n, pairs(pair(0, n-1))).Above(0, n-1) {
				t.Errorf("of %d symbols the last and the first", n)
			}
		}
		for _, no := range noSymbols(n) {
			if no >= 0 && no < n {
				continue
			}
			for _, wrong := range pairs(pair(no, 0), pair(0, no), pair(no, no), pair(no, n-1), pair(n-1, no)) {
				refuses(t, n, pairs(wrong), api.ErrPrecSymbol)
				refuses(t, n, slices.Concat(right, pairs(wrong)), api.ErrPrecSymbol)
				refuses(t, n, slices.Concat(pairs(wrong), right), api.ErrPrecSymbol)
			}
		}
	}
}

// TestWhichError: a wrong n goes ahead of a wrong pair, and that ahead of a cycle, wherever they stand.
func TestWhichError(t *testing.T) { // P10.1, R2
	wrong, self, both := pair(-1, 0), pair(1, 1), line(0, 2, 0)
	for _, cycle := range [][][2]int{pairs(self), both, line(0, 1, 2, 0)} {
		for _, no := range pairs(wrong, pair(0, 3), pair(3, 0), pair(3, 3), pair(math.MaxInt, math.MinInt)) {
			refuses(t, 3, slices.Concat(cycle, pairs(no)), api.ErrPrecSymbol)
			refuses(t, 3, slices.Concat(pairs(no), cycle), api.ErrPrecSymbol)
			refuses(t, 3, slices.Concat(cycle, pairs(no), cycle), api.ErrPrecSymbol)
		}
		refuses(t, 3, cycle, api.ErrPrecCycle)
	}
	for _, n := range []int{-1, math.MinInt, 129, math.MaxInt} {
		for _, l := range [][][2]int{pairs(wrong), pairs(self), both, pairs(pair(n, 0)), pairs(pair(0, 1)), pairs(self, wrong)} {
			refuses(t, n, l, api.ErrArg)
		}
	}
	refuses(t, 0, pairs(pair(0, 0)), api.ErrPrecSymbol)
	refuses(t, 1, pairs(pair(0, 0)), api.ErrPrecCycle)
	refuses(t, 1, pairs(pair(1, 1)), api.ErrPrecSymbol)
}

// TestNoPairs: nothing is above anything; no list and an empty one are the same.
func TestNoPairs(t *testing.T) { // P10.1, P10.2, R4
	for _, n := range sizes() {
		for _, l := range [][][2]int{nil, {}} {
			nothingAbove(t, closes(t, n, l), append(upTo(n), noSymbols(n)...))
		}
	}
}

// TestNotSymbols: numbers that are none are above nothing, and nothing is above them, though the symbols are above one another.
func TestNotSymbols(t *testing.T) { // P10.2
	for _, n := range sizes() {
		for _, p := range []*Prec{closes(t, n, line(upTo(n)...)), closes(t, n, line(downFrom(n)...))} {
			for _, no := range noSymbols(n) {
				for _, f := range append(upTo(n), noSymbols(n)...) {
					if p.Above(no, f) || p.Above(f, no) {
						t.Errorf("of %d symbols: %d and %d", n, no, f)
					}
				}
			}
		}
	}
}

// TestCycles: a symbol is above itself by one pair, by two, and by rows of any length, wherever in the order of the pairs the last one stands.
func TestCycles(t *testing.T) { // P10.1
	r := random(1)
	for _, n := range sizes() {
		for f := range n {
			refuses(t, n, pairs(pair(f, f)), api.ErrPrecCycle)
			if g := n - 1 - f; g != f {
				refuses(t, n, pairs(pair(f, g), pair(g, f)), api.ErrPrecCycle)
			}
		}
		for length := 2; length <= n; length++ {
			round := shuffled(&r, upTo(n))[:length]
			l := append(line(round...), pair(round[length-1], round[0]))
			refuses(t, n, l, api.ErrPrecCycle)
			refuses(t, n, shuffled(&r, l), api.ErrPrecCycle)
			at := r.below(length)
			closes(t, n, slices.Delete(l, at, at+1))
		}
	}
}

// TestCycleBeside: a cycle that most symbols have no part in is one, too.
func TestCycleBeside(t *testing.T) { // P10.1
	for _, round := range [][]int{{126, 127, 126}, {63, 64, 63}, {0, 127, 0}, {70, 20, 110, 70}} {
		var rest []int
		for f := range 128 {
			if !slices.Contains(round, f) {
				rest = append(rest, f)
			}
		}
		refuses(t, 128, slices.Concat(line(rest...), line(round...)), api.ErrPrecCycle)
		refuses(t, 128, slices.Concat(line(round...), line(rest...)), api.ErrPrecCycle)
		closes(t, 128, slices.Concat(line(rest...), line(round[1:]...)))
	}
}

// TestLines: of a row of pairs through all symbols, each is above just those behind it.
func TestLines(t *testing.T) { // P10.1, P10.2
	r := random(2)
	for _, n := range sizes() {
		lines := [][]int{upTo(n), downFrom(n)}
		for range 5 {
			lines = append(lines, shuffled(&r, upTo(n)))
		}
		for _, symbols := range lines {
			p, q := closes(t, n, line(symbols...)), closes(t, n, shuffled(&r, line(symbols...)))
			for i, f := range symbols {
				for j, g := range symbols {
					if p.Above(f, g) != (i < j) || q.Above(f, g) != (i < j) {
						t.Fatalf("of the line %v: Above(%d, %d): %v, %v", symbols, f, g, p.Above(f, g), q.Above(f, g))
					}
				}
			}
		}
	}
}

// TestForks: of several below one symbol, or above one, none is above another one for that.
func TestForks(t *testing.T) { // P10.1, P10.2
	var under, over [][2]int
	for f := 1; f < 128; f++ {
		under, over = append(under, pair(0, f)), append(over, pair(f, 0))
	}
	p, q := closes(t, 128, under), closes(t, 128, over)
	for f := range 128 {
		for g := range 128 {
			if p.Above(f, g) != (f == 0 && g > 0) || q.Above(f, g) != (g == 0 && f > 0) {
				t.Errorf("%d and %d: %v, %v", f, g, p.Above(f, g), q.Above(f, g))
			}
		}
	}
}

// TestAsThePlainReading: all sets of pairs of two unlike symbols, of at most four, and drawn pairs, cycles and wrong numbers among them.
func TestAsThePlainReading(t *testing.T) { // P10.1, P10.2
	for n := range 5 {
		for l := range everyPairs(n) {
			holdPlain(t, n, l)
		}
	}
	r, right, cycles, wrong := random(3), 0, 0, 0
	for range 1000 {
		n := r.size()
		l := r.order(n, 2*n)
		if r.below(3) == 0 {
			l = append(l, pair(r.below(n), r.below(n)))
		}
		if r.below(8) == 0 {
			l = append(l, pair(r.below(n), r.below(n+3)-1))
		}
		l = shuffled(&r, l)
		switch {
		case holdPlain(t, n, l):
			right++
		case plainErr(n, l) == api.ErrPrecCycle:
			cycles++
		default:
			wrong++
		}
	}
	if right < 500 || cycles < 100 || wrong < 20 {
		t.Errorf("only %d precedences, %d cycles, %d wrong ones", right, cycles, wrong)
	}
}

// TestManyPairs: how many pairs there are is not bounded.
func TestManyPairs(t *testing.T) { // P10.1, R1
	var whole [][2]int
	for f := range 128 {
		for g := range f {
			whole = append(whole, pair(f, g))
		}
	}
	l := slices.Repeat(whole, 50)
	p := closes(t, 128, l)
	for f := range 128 {
		for g := range 128 {
			if p.Above(f, g) != (f > g) {
				t.Fatalf("Above(%d, %d): %v", f, g, p.Above(f, g))
			}
		}
	}
	refuses(t, 128, append(l, pair(0, 127)), api.ErrPrecCycle)
	refuses(t, 128, append(l, pair(0, 128)), api.ErrPrecSymbol)
}

// TestAllArguments: no call panics, and beside an error there is no precedence.
func TestAllArguments(t *testing.T) { // R1, R2
	numbers := []int{math.MinInt, -129, -128, -65, -64, -1, 0, 1, 63, 64, 127, 128, 129, 191, 192, math.MaxInt}
	for _, n := range numbers {
		for _, f := range numbers {
			for _, g := range numbers {
				p, e := Close(n, pairs(pair(f, g)))
				if e != plainErr(n, pairs(pair(f, g))) || (p == nil) != (e != api.OK) {
					t.Fatalf("Close(%d, {%d %d}): %v, %v", n, f, g, p, e)
				}
				if p == nil {
					continue
				}
				for _, h := range numbers {
					for _, k := range numbers {
						if p.Above(h, k) != (h == f && k == g) {
							t.Fatalf("Close(%d, {%d %d}): Above(%d, %d): %v", n, f, g, h, k, p.Above(h, k))
						}
					}
				}
			}
		}
	}
}
