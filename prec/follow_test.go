package prec

import (
	"slices"
	"testing"

	"lodestone/api"
)

// TestAnOrder: nothing is above itself, of two not each above the other one, and what is above what is above a third one is above that; so is a pair's first above its second.
func TestAnOrder(t *testing.T) { // P10.3
	long := 0
	eachOrder(4, func(n int, l [][2]int) {
		p := closes(t, n, l)
		for _, told := range l {
			if !p.Above(told[0], told[1]) {
				t.Fatalf("Close(%d, %v): not %v", n, l, told)
			}
		}
		for f := range n {
			if p.Above(f, f) {
				t.Fatalf("Close(%d, %v): %d is above itself", n, l, f)
			}
			for g := range n {
				if !p.Above(f, g) {
					continue
				}
				if p.Above(g, f) {
					t.Fatalf("Close(%d, %v): %d and %d are above one another", n, l, f, g)
				}
				for h := range n {
					if p.Above(g, h) && !p.Above(f, h) {
						t.Fatalf("Close(%d, %v): %d above %d above %d", n, l, f, g, h)
					}
				}
				if !slices.Contains(l, pair(f, g)) {
					long++
				}
			}
		}
	})
	if long < 10000 {
		t.Errorf("only %d are above another one by more than one pair", long)
	}
}

// same holds that other pairs make the same precedence: the same rows, as arrays.
func same(t *testing.T, n int, l, other [][2]int) {
	t.Helper()
	p, q := closes(t, n, l), closes(t, n, other)
	if p.below != q.below || *p != *q {
		t.Fatalf("Close(%d, %v), and of %v", n, l, other)
	}
	for f := range n {
		for g := range n {
			if p.Above(f, g) != q.Above(f, g) {
				t.Fatalf("Close(%d, %v), and of %v: Above(%d, %d): %v, %v", n, l, other, f, g, p.Above(f, g), q.Above(f, g))
			}
		}
	}
}

// TestThePairsAlone: neither their order, nor pairs that are told twice, nor pairs that follow change anything.
func TestThePairsAlone(t *testing.T) { // P10.4
	r := random(5)
	followed := 0
	eachOrder(6, func(n int, l [][2]int) {
		same(t, n, l, shuffled(&r, l))
		same(t, n, l, slices.Concat(l, l))
		same(t, n, l, shuffled(&r, slices.Concat(l, r.someOf(l))))
		var follow [][2]int
		for f, row := range plainAbove(n, l) {
			for g, above := range row {
				if above {
					follow = append(follow, pair(f, g))
				}
			}
		}
		some := r.someOf(follow)
		same(t, n, l, follow)
		same(t, n, l, slices.Concat(l, some))
		same(t, n, l, shuffled(&r, slices.Concat(some, l)))
		followed += len(some)
	})
	if followed < 5000 {
		t.Errorf("only %d pairs more", followed)
	}
}

// TestUnlikePairs: where not the same symbols are above the same ones, the rows are unlike.
func TestUnlikePairs(t *testing.T) { // P10.4
	var seen []*Prec
	for _, l := range [][][2]int{nil, line(0, 1), line(1, 0), line(0, 127), line(127, 64), line(127, 63), line(0, 1, 2), line(0, 2, 1), {{0, 1}, {0, 2}}, {{1, 2}, {0, 2}}} {
		p := closes(t, 128, l)
		if slices.ContainsFunc(seen, func(q *Prec) bool { return *p == *q }) {
			t.Errorf("the rows of %v are others', too", l)
		}
		seen = append(seen, p)
	}
}

// TestFewerPairs: all that is above something by some of the pairs is so by all of them.
func TestFewerPairs(t *testing.T) { // P10.4
	r := random(7)
	fewer := 0
	eachOrder(8, func(n int, l [][2]int) {
		p, q := closes(t, n, l), closes(t, n, r.someOf(l))
		for f := range n {
			for g := range n {
				if q.Above(f, g) && !p.Above(f, g) {
					t.Fatalf("Close(%d, %v): not %d above %d, but of fewer", n, l, f, g)
				}
				if p.Above(f, g) && !q.Above(f, g) {
					fewer++
				}
			}
		}
	})
	if fewer < 1000 {
		t.Errorf("only %d less", fewer)
	}
}

// oneMore holds P10.5 of one pair more.
func oneMore(t *testing.T, n int, l [][2]int, p *Prec, f, g int) {
	t.Helper()
	more := slices.Concat(l, pairs(pair(f, g)))
	if f == g || p.Above(g, f) {
		refuses(t, n, more, api.ErrPrecCycle)
		return
	}
	q := closes(t, n, more)
	for h := range n {
		for k := range n {
			by := (h == f || p.Above(h, f)) && (g == k || p.Above(g, k))
			if q.Above(h, k) != (p.Above(h, k) || by) {
				t.Fatalf("Close(%d, %v), and {%d %d} more: Above(%d, %d): %v", n, l, f, g, h, k, q.Above(h, k))
			}
		}
	}
}

func TestOneMore(t *testing.T) { // P10.5
	r := random(9)
	eachOrder(10, func(n int, l [][2]int) {
		p := closes(t, n, l)
		if n <= 4 {
			for f := range n {
				for g := range n {
					oneMore(t, n, l, p, f, g)
				}
			}
			return
		}
		for range 10 {
			oneMore(t, n, l, p, r.below(n), r.below(n))
		}
		oneMore(t, n, l, p, 0, n-1)
		oneMore(t, n, l, p, n-1, 0)
		oneMore(t, n, l, p, n-1, n-1)
	})
}

// TestOneMoreOfLines: a pair that lays one long line behind another one, one from a line's end to its head, and one within it.
func TestOneMoreOfLines(t *testing.T) { // P10.5
	l := slices.Concat(line(upTo(64)...), line(downFrom(128)[:64]...))
	p := closes(t, 128, l)
	for _, more := range pairs(pair(63, 127), pair(64, 0), pair(63, 0), pair(64, 127), pair(0, 63), pair(31, 90), pair(90, 31), pair(0, 127), pair(0, 0), pair(127, 127)) {
		oneMore(t, 128, l, p, more[0], more[1])
	}
}

// TestOneByOne: pairs that are told one by one, those that are refused left out, end in a precedence that takes none of these; two that are not told apart may stand either way.
func TestOneByOne(t *testing.T) { // P10.5
	r := random(11)
	for range 20 {
		n := 2 + r.below(12)
		var taken, left [][2]int
		for range 3 * n {
			more := pair(r.below(n), r.below(n))
			if _, e := Close(n, slices.Concat(taken, pairs(more))); e == api.OK {
				taken = append(taken, more)
			} else {
				left = append(left, more)
			}
		}
		p := closes(t, n, taken)
		for _, no := range left {
			if no[0] != no[1] && !p.Above(no[1], no[0]) {
				t.Fatalf("of %v: %v was refused", taken, no)
			}
			refuses(t, n, slices.Concat(taken, pairs(no)), api.ErrPrecCycle)
		}
		for f := range n {
			for g := range n {
				if f != g && !p.Above(f, g) && !p.Above(g, f) {
					closes(t, n, slices.Concat(taken, pairs(pair(f, g))))
					closes(t, n, slices.Concat(taken, pairs(pair(g, f))))
				}
			}
		}
	}
}
