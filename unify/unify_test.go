package unify

import (
	"slices"
	"testing"

	"lodestone/api"
)

func TestExamples(t *testing.T) { // P6.1, P6.2
	binding(t, row(-1), row(1, -2), bind(0, 1, -2))
	binding(t, row(2, -1, -2), row(2, -2, -3), bind(1, -1), bind(2, -1))
	binding(t, row(2, -1, 1, -1), row(2, 1, -2, -3), bind(0, 1, -2), bind(2, 1, 1, -2))
	failing(t, row(2, 0, -2), row(2, 1, -1, -2), api.ErrUnifyNone)
	failing(t, row(-1), row(1, -1), api.ErrUnifyNone)
	failing(t, row(2, -1, -2), row(2, 1, -2, 1, -1), api.ErrUnifyNone)
	binding(t, row(-5), row(-5))
	binding(t, row(0), row(0))
	a, b := doubling(10)
	failing(t, a, b, api.ErrTooBig)
}

func TestTwoVariables(t *testing.T) { // P6.1
	numbers := variables()
	for i, v := range numbers {
		binding(t, row(-1-v), row(-1-v))
		for _, w := range numbers[i+1:] {
			binding(t, row(-1-v), row(-1-w), bind(w, -1-v))
			binding(t, row(1, -1-v), row(1, -1-w), bind(w, -1-v))
			binding(t, row(2, -1-v, -1-w), row(2, -1-w, -1-v), bind(w, -1-v))
		}
	}
	holds(t, nil, row(-4), row(-2), binds(bind(3, -2)), api.OK)
}

func TestAVariableAndATerm(t *testing.T) { // P6.1
	for _, v := range []int{0, 1, 2, api.MaxVar - 1} {
		for _, u := range smallTerms(5, 2) {
			if u[0] < 0 {
				continue
			}
			if slices.Contains(u, -1-v) {
				failing(t, row(-1-v), u, api.ErrUnifyNone)
				failing(t, row(2, 0, 1, -1-v), slices.Concat(row(2, 0, 1), u), api.ErrUnifyNone)
			} else {
				binding(t, row(-1-v), u, bind(v, u...))
				binding(t, row(2, 0, 1, -1-v), slices.Concat(row(2, 0, 1), u), bind(v, u...))
			}
		}
	}
	failing(t, row(-3), tower(400, -3), api.ErrUnifyNone)
	failing(t, row(-3), tower(600, -3), api.ErrUnifyNone) // too big as well, but that is never asked
}

// TestCircles: a variable would be a part of itself, but only by what others are bound to.
func TestCircles(t *testing.T) { // P6.1
	failing(t, row(2, -1, -2), row(2, 1, -2, -1), api.ErrUnifyNone)
	failing(t, row(2, -1, -1), row(2, -2, 1, -2), api.ErrUnifyNone)
	failing(t, row(2, -1, 2, -2, -3), row(2, 1, -2, 2, 1, -3, 1, -1), api.ErrUnifyNone)
	failing(t, row(2, -1, 2, -2, -2), row(2, 1, -2, 2, -3, -1), api.ErrUnifyNone)
	failing(t, list(row(-1), row(-2), row(1, -3)), list(row(-2), row(-3), row(1, 1, -1)), api.ErrUnifyNone)
	// the circle stands below what has no variables of its own
	failing(t, list(row(-1), row(-3)), list(row(1, 1, -2), row(1, 1, -3)), api.ErrUnifyNone)
	// and only in a term that no variable is bound to at the root
	failing(t, row(1, 2, 0, -2), row(1, 2, 0, 2, -2, 0), api.ErrUnifyNone)
	for n := 2; n <= 40; n++ {
		var a, b [][]int
		for v := range n {
			a, b = append(a, row(-1-v)), append(b, row(1, -1-(v+1)%n))
		}
		failing(t, list(a...), list(b...), api.ErrUnifyNone)
		// without the last one it is a way to an end
		if s, e := Unify(three(), list(a[1:]...), list(b[1:]...)); e != api.OK || len(s) != n-1 || len(s[0].T) != n {
			t.Errorf("a row of %d: %v, %v", n, s, e)
		}
	}
}

func TestNoCircle(t *testing.T) { // P6.1
	binding(t, row(1, -1), row(1, -1))
	binding(t, row(2, -1, 1, -1), row(2, -1, 1, -1))
	binding(t, row(2, -1, 1, -1), row(2, -2, 1, -2), bind(1, -1))
	binding(t, row(2, -1, -1), row(2, 1, -2, 1, -3), bind(0, 1, -2), bind(2, -2))
	binding(t, row(2, 1, -1, 1, -1), row(2, -2, -2), bind(1, 1, -1))
	binding(t, row(2, 2, -1, -1, -2), row(2, -2, 2, -1, -1), bind(1, 2, -1, -1))
}

// TestChains: of variables that become one another the least one stays, in whatever order they are met.
func TestChains(t *testing.T) { // P6.1
	orders := [][]int{{9, 7, 5, 3}, {3, 5, 7, 9}, {5, 3, 9, 7}, {9, 3, 7, 5}, {7, 9, 3, 5}, {5, 9, 7, 3}}
	for _, o := range orders {
		var a, b [][]int
		for i := range 3 {
			a, b = append(a, row(-1-o[i])), append(b, row(-1-o[i+1]))
		}
		want := binds(bind(5, -4), bind(7, -4), bind(9, -4))
		binding(t, list(a...), list(b...), want...)
		slices.Reverse(a)
		slices.Reverse(b)
		binding(t, list(a...), list(b...), want...)
		binding(t, list(a[0], b[1], a[2]), list(b[0], a[1], b[2]), want...)
		// with a term among them none stays
		a, b = append(a, row(-1-o[2])), append(b, row(1, -1))
		want = binds(bind(3, 1, -1), bind(5, 1, -1), bind(7, 1, -1), bind(9, 1, -1))
		binding(t, list(a...), list(b...), want...)
	}
	// two chains that are met at last
	binding(t, list(row(-9), row(-7), row(-9)), list(row(-5), row(-3), row(-7)), bind(4, -3), bind(6, -3), bind(8, -3))
	binding(t, list(row(-2), row(-3)), list(row(-1), row(-4)), bind(1, -1), bind(3, -3))
	// made one another by the terms that they stand in
	binding(t, list(row(-9), row(-9)), list(row(1, -4), row(1, -2)), bind(3, -2), bind(8, 1, -2))
}

func TestALongChain(t *testing.T) { // P6.1
	const n = 20000
	up, down := row(), row()
	for v := range n {
		up, down = append(up, 2, -1-v), append(down, 2, -2-v)
	}
	s, e := Unify(three(), append(up, -1), append(down, -2))
	if e != api.OK || len(s) != n {
		t.Fatalf("%d binds, %v", len(s), e)
	}
	for i, b := range s {
		if b.Var != i+1 || !slices.Equal(b.T, row(-1)) {
			t.Fatalf("bind %d: %v", i, b)
		}
	}
}

func TestUnlikeSymbols(t *testing.T) { // P6.1
	sig := []api.Symbol{sym("a", 0), sym("b", 0), sym("f", 2), sym("g", 2), sym("f#", 2)}
	for i := range 5 {
		for j := range 5 {
			a, b := slices.Concat(row(i), row(-1, -2)[:sig[i].Arity]), slices.Concat(row(j), row(0, 1)[:sig[j].Arity])
			switch {
			case i != j:
				holds(t, sig, a, b, nil, api.ErrUnifyNone)
			case i > 1:
				holds(t, sig, a, b, binds(bind(0, 0), bind(1, 1)), api.OK)
			default:
				holds(t, sig, a, b, nil, api.OK)
			}
		}
	}
	failing(t, tower(600, 0), tower(601, 0), api.ErrUnifyNone)
	failing(t, row(2, -1, 2, -2, 2, -3, 0), row(2, 0, 2, 0, 2, 0, 1, 0), api.ErrUnifyNone)
	failing(t, row(2, 1, 1, 1, 0, -1), row(2, 1, 1, 1, 1, -1, -1), api.ErrUnifyNone)
	// unlike only by what a variable is bound to
	failing(t, row(2, -1, -1), row(2, 0, 1, 0), api.ErrUnifyNone)
	failing(t, row(2, -1, -1), row(2, 1, 1, 0, 1, 2, 0, 0), api.ErrUnifyNone)
	failing(t, list(row(-1), row(-2), row(-1)), list(row(1, 0), row(1, 1, -3), row(-2)), api.ErrUnifyNone)
}

func TestBindsRise(t *testing.T) { // P6.1
	a := row(8, -6, -api.MaxVar, -3, 0, 1-api.MaxVar, -1, -2, -6)
	b := row(8, 0, 1, -9, -10, 0, 0, 0, 1, -9, -5)
	want := binds(bind(0, 0), bind(1, 1, -9), bind(4, 0), bind(5, 0), bind(9, -3), bind(api.MaxVar-2, 0), bind(api.MaxVar-1, 1, -9))
	holds(t, all(), a, b, want, api.OK)
}

func TestJustSoBig(t *testing.T) { // P6.1, P6.2
	for _, n := range []int{2, 3, 511, 512} {
		binding(t, row(-1), tower(n, 0), bind(0, tower(n, 0)...))
		binding(t, row(1, -1), tower(n+1, -2), bind(0, tower(n, -2)...))
		binding(t, list(row(-1), row(-2)), list(tower(n-1, -2), row(1, 0)), bind(0, tower(n, 0)...), bind(1, 1, 0))
	}
	for _, n := range []int{513, 514, 1023, 5000} {
		failing(t, row(-1), tower(n, 0), api.ErrTooBig)
		failing(t, row(1, -1), tower(n+1, -2), api.ErrTooBig)
		failing(t, list(row(-1), row(-2)), list(tower(n-1, -2), row(1, 0)), api.ErrTooBig)
	}
	// whichever of the variables it is
	binding(t, list(row(-1), row(-2), row(-3)), list(row(0), tower(512, 0), row(0)), bind(0, 0), bind(1, tower(512, 0)...), bind(2, 0))
	failing(t, list(row(-1), row(-2), row(-3)), list(row(0), tower(513, 0), row(0)), api.ErrTooBig)
	failing(t, list(row(-1), row(-2), row(-3)), list(row(0), row(0), tower(513, 0)), api.ErrTooBig)
	// a symbol of many arguments, each of which is small enough
	many := slices.Concat(row(8), slices.Repeat(tower(63, 0), 7), tower(70, 0))
	holds(t, all(), row(-1), many, binds(bind(0, many...)), api.OK)
	holds(t, all(), row(-1), append(row(1), many...), nil, api.ErrTooBig)
}

// TestOnlyWhatIsBound: how many nodes the two terms have, or what stands ahead of a variable, is not asked.
func TestOnlyWhatIsBound(t *testing.T) { // P6.1
	binding(t, tower(600, 0), tower(600, 0))
	binding(t, tower(600, -1), tower(600, -1))
	binding(t, tower(600, -1), tower(600, 0), bind(0, 0))
	binding(t, tower(600, -2), tower(600, -1), bind(1, -1))
	binding(t, tower(600, -1), tower(1111, 0), bind(0, tower(512, 0)...))
	failing(t, tower(600, -1), tower(1112, 0), api.ErrTooBig)
}

// TestNoneIsAheadOfTooBig: what can't be unified is told, however great the terms are.
func TestNoneIsAheadOfTooBig(t *testing.T) { // P6.1
	failing(t, row(2, -1, 0), slices.Concat(row(2), tower(600, 0), row(1, 0)), api.ErrUnifyNone)
	failing(t, row(2, 0, -1), slices.Concat(row(2, 1, 0), tower(600, 0)), api.ErrUnifyNone)
	failing(t, list(row(-1), row(-2)), list(tower(600, 0), row(1, -2)), api.ErrUnifyNone)
	failing(t, list(row(-1), row(-2)), list(row(1, -1), tower(600, 0)), api.ErrUnifyNone)
}

// doubling are two terms of which the variable 0 is bound to two of 1, that to two of 2, and so on: so deep.
func doubling(n int) ([]int, []int) {
	var a, b []int
	for v := range n {
		a, b = append(a, 2, -1-v), append(b, 2, 2, -2-v, -2-v)
	}
	return append(a, 0), append(b, 0)
}

func TestDoubling(t *testing.T) { // P6.1, P6.2
	for n := 1; n <= 300; n++ {
		a, b := doubling(n)
		if n > 8 {
			failing(t, a, b, api.ErrTooBig)
			continue
		}
		var want []api.Bind
		u := row(-1 - n)
		for v := n - 1; v >= 0; v-- {
			u = slices.Concat(row(2), u, u)
			want = append(binds(bind(v, u...)), want...)
		}
		binding(t, a, b, want...)
	}
}

// TestDoublingToTheBound: 511 nodes, and one or two more on top.
func TestDoublingToTheBound(t *testing.T) { // P6.1
	a, b := doubling(8)
	if s, e := Unify(three(), slices.Concat(row(2, -31), a), slices.Concat(row(2, 1, -1), b)); e != api.OK || len(s) != 9 || len(s[8].T) != 512 {
		t.Errorf("512 nodes: %v, %d binds", e, len(s))
	}
	failing(t, slices.Concat(row(2, -31), a), slices.Concat(row(2, 1, 1, -1), b), api.ErrTooBig)
}

// TestDoublingTwice makes two towers of doubled terms one: by each way to them there would be far too many pairs.
func TestDoublingTwice(t *testing.T) { // P6.1, P6.2
	twin := func(n int, ends ...[]int) ([]int, []int) {
		var a, b [][]int
		for v := range n {
			x, y := -1-2*v, -2-2*v
			a, b = append(a, row(x), row(y)), append(b, row(2, x-2, x-2), row(2, y-2, y-2))
		}
		for i, end := range ends {
			a, b = append(a, row(-1-2*n-i)), append(b, end)
		}
		// the tops come last, when all the rest is bound, or first
		return list(append(a, row(-1))...), list(append(b, row(-2))...)
	}
	for n := 9; n <= 200; n += 13 {
		a, b := twin(n)
		failing(t, a, b, api.ErrTooBig)
		a, b = twin(n, row(1, 0), row(1, 0))
		failing(t, a, b, api.ErrTooBig)
		a, b = twin(n, row(1, 0), row(0))
		failing(t, a, b, api.ErrUnifyNone)
		a, b = twin(n, row(1, -1-2*n), row(0))
		failing(t, a, b, api.ErrUnifyNone)
		a, b = twin(n, row(1, -1), row(-600))
		failing(t, a, b, api.ErrUnifyNone)
		a, b = twin(n, row(1, -600), row(1, 1, -600))
		failing(t, a, b, api.ErrUnifyNone)
	}
	a, b := twin(3, row(0))
	var want []api.Bind
	for v, nodes := range []int{15, 15, 7, 7, 3, 3, 1, 1} {
		want = append(want, bind(v, doubled(nodes)...))
	}
	binding(t, a, b, want...)
}

// doubled is the full tree of so many nodes, of plus and zero.
func doubled(nodes int) []int {
	if nodes == 1 {
		return row(0)
	}
	u := doubled(nodes / 2)
	return slices.Concat(row(2), u, u)
}

// TestGreatTerms: no depth is too deep.
func TestGreatTerms(t *testing.T) { // P6.1, R1
	const n = 1 << 16
	binding(t, tower(n, -3), tower(n+5, 0), bind(2, tower(6, 0)...))
	failing(t, tower(n, 0), tower(n+1, -1), api.ErrUnifyNone) // zero and s of something
	failing(t, tower(n, -1), tower(n+1, -1), api.ErrUnifyNone)
	failing(t, row(-1), tower(n, -2), api.ErrTooBig)
	comb := slices.Concat(slices.Repeat(row(2), n), slices.Repeat(row(-1), n+1))
	binding(t, comb, made(binds(bind(0, 1, -2)), comb), bind(0, 1, -2))
	failing(t, comb, made(binds(bind(0, 1, -1)), comb), api.ErrUnifyNone)
	other := slices.Clone(comb)
	other[len(other)-1] = -2
	binding(t, comb, other, bind(1, -1))
	// a way of binds that is as long
	var a, b [][]int
	for v := range n {
		a, b = append(a, row(-1-v)), append(b, row(1, -2-v))
	}
	failing(t, list(a...), list(b...), api.ErrTooBig)
	b[n-1] = row(1, -1)
	failing(t, list(a...), list(b...), api.ErrUnifyNone)
}

// TestAsTextbooksDo holds all small terms, and many drawn ones, against the plain way.
func TestAsTextbooksDo(t *testing.T) { // P6.1, P6.2
	terms := smallTerms(5, 3)
	for i, a := range terms {
		for _, b := range terms[i:] {
			likePlain(t, three(), a, b)
		}
	}
}

func likePlain(t *testing.T, sig []api.Symbol, a, b []int) bool {
	t.Helper()
	want, ok := plain(sig, a, b)
	switch {
	case !ok:
		holds(t, sig, a, b, nil, api.ErrUnifyNone)
	case slices.ContainsFunc(want, func(x api.Bind) bool { return len(x.T) > api.MaxNodes }):
		holds(t, sig, a, b, nil, api.ErrTooBig)
	default:
		holds(t, sig, a, b, want, api.OK)
	}
	return ok
}

func TestDrawnTerms(t *testing.T) { // P6.1, P6.2
	r := random(1)
	can := 0
	for range 3000 {
		u := r.term(1 + r.below(60))
		a, s := r.general(u, nil)
		b, _ := r.general(u, s[:len(s)/2])
		if likePlain(t, all(), a, b) {
			can++
		}
		if likePlain(t, all(), r.term(1+r.below(20)), a) {
			can++
		}
	}
	if can < 1000 || can > 5000 {
		t.Errorf("%d of 6000 can", can)
	}
}

func TestWrongInput(t *testing.T) { // P6.1, P6.2, R3
	asks := func(sig []api.Symbol, a, b []int, e api.Errno) {
		t.Helper()
		if s, f := Unify(sig, a, b); f != e || len(s) > 0 {
			t.Errorf("Unify(%v; %v, %v): %v, %v, want %v", sig, a, b, s, f, e)
		}
		if Can(sig, a, b) {
			t.Errorf("Can(%v; %v, %v)", sig, a, b)
		}
	}
	for e, sig := range badSigs() {
		for _, u := range [][]int{{0}, {-1}, nil, {3}, {0, 0}} {
			asks(sig, u, row(-1), e)
			asks(sig, row(-1), u, e)
		}
	}
	for e, rows := range badRows() {
		for _, bad := range rows {
			for _, u := range [][]int{{-1}, {0}, {1, -1}, {2, 0, 0}} {
				asks(three(), bad, u, e)
				asks(three(), u, bad, e)
			}
			for _, others := range badRows() { // the first one's error
				for _, other := range others {
					asks(three(), bad, other, e)
				}
			}
		}
	}
	asks(nil, row(0), row(0), api.ErrTermCode)
	asks(three(), row(1, -1), row(1, 0, 0), api.ErrTermMore)  // what stands ahead of the fault unifies
	asks(three(), row(2, 0, -2), row(2, 1), api.ErrTermShort) // and here it does not
}
