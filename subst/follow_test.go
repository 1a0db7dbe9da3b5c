package subst

import (
	"cmp"
	"math"
	"slices"
	"testing"

	"lodestone/api"
)

// atOnce are the binds that do what s does, and then r.
func atOnce(t *testing.T, s, r []api.Bind) []api.Bind {
	t.Helper()
	var both []api.Bind
	for _, b := range s {
		both = append(both, bind(b.Var, apply(t, r, b.T)...))
	}
	for _, b := range r {
		if !slices.ContainsFunc(s, func(c api.Bind) bool { return c.Var == b.Var }) {
			both = append(both, b)
		}
	}
	slices.SortFunc(both, func(a, b api.Bind) int { return cmp.Compare(a.Var, b.Var) })
	return both
}

func TestOneAfterTheOther(t *testing.T) { // P4.5
	hold := func(s, r []api.Bind, u []int) {
		after := apply(t, r, apply(t, s, u))
		if once := apply(t, atOnce(t, s, r), u); !slices.Equal(after, once) {
			t.Fatalf("%v by %v, then by %v: %v, at once %v", u, s, r, after, once)
		}
	}
	few := smallBinds()
	terms := smallTerms(4)
	for i, s := range few {
		for j, r := range few {
			hold(s, r, terms[(i*7+j*3)%len(terms)])
		}
	}
	d := random(5)
	for range 300 {
		// few nodes, so that nothing is too big
		hold(d.binds(), d.binds(), d.term(1+d.below(6)))
	}
}

// TestOneAfterTheOtherByHand is one case, written out: what r gives a variable of s is not asked, but in what s laid.
func TestOneAfterTheOtherByHand(t *testing.T) { // P4.5
	s := binds(bind(0, 2, -1, -2))
	r := binds(bind(0, 0), bind(1, 1, -3))
	if v := apply(t, r, apply(t, s, row(2, -1, -2))); !slices.Equal(v, row(2, 2, 0, 1, -3, 1, -3)) {
		t.Errorf("one after the other: %v", v)
	}
	if v := apply(t, atOnce(t, s, r), row(2, -1, -2)); !slices.Equal(v, row(2, 2, 0, 1, -3, 1, -3)) {
		t.Errorf("at once: %v", v)
	}
}

func TestPartByPart(t *testing.T) { // P4.6
	hold := func(s []api.Bind, u []int) {
		if u[0] < 0 {
			return
		}
		want := row(u[0])
		for _, a := range args(all(), u) {
			want = append(want, apply(t, s, a)...)
		}
		if v := apply(t, s, u); !slices.Equal(v, want) {
			t.Fatalf("%v by %v: %v, its parts %v", u, s, v, want)
		}
	}
	for _, s := range smallBinds() {
		for _, u := range smallTerms(5) {
			hold(s, u)
		}
	}
	r := random(6)
	for range 300 {
		hold(r.binds(), r.term(1+r.below(25)))
	}
}

func TestStaysAsItIs(t *testing.T) { // P4.6
	r := random(7)
	for range 300 {
		u := r.term(1 + r.below(60))
		others := slices.DeleteFunc(r.binds(), func(b api.Bind) bool { return slices.Contains(u, -1-b.Var) })
		for _, s := range [][]api.Bind{nil, {}, others, {bind(500, 1, -501)}} {
			if v := apply(t, s, u); !slices.Equal(v, u) {
				t.Fatalf("%v by %v: %v", u, s, v)
			}
		}
	}
	if v := apply(t, nil, tower(512, -1)); !slices.Equal(v, tower(512, -1)) {
		t.Errorf("a term of %d nodes: %v", api.MaxNodes, v)
	}
}

func TestCanonOfCanon(t *testing.T) { // P4.7
	for _, l := range someRows() {
		once := Canon(l...)
		if twice := Canon(once...); !sameRows(twice, once) {
			t.Fatalf("Canon of %v, which is Canon(%v): %v", once, l, twice)
		}
	}
}

func TestCanonOfShifted(t *testing.T) { // P4.7
	shifts := []int{0, 1, 2, 25, -1, 1000, api.MaxVar - 26, api.MaxVar, math.MinInt, math.MaxInt}
	held := 0
	for _, l := range someRows() {
		for _, by := range shifts {
			moved, ok := shiftAll(l, by)
			if !ok {
				continue
			}
			held++
			if a, b := Canon(l...), Canon(moved...); !sameRows(a, b) {
				t.Fatalf("Canon(%v): %v, shifted by %d: %v", l, a, by, b)
			}
		}
	}
	if held < 500 {
		t.Errorf("only %d lists of rows could be shifted", held)
	}
}

func shiftAll(l [][]int, by int) ([][]int, bool) {
	var moved [][]int
	for _, u := range l {
		v, e := Shift(u, by)
		if e != api.OK {
			return nil, false
		}
		moved = append(moved, v)
	}
	return moved, true
}

func TestShiftBack(t *testing.T) { // P4.7
	r := random(8)
	for range 300 {
		u := make([]int, r.below(12))
		for i := range u {
			u[i] = r.below(40) - 25
		}
		for _, by := range []int{0, 1, 7, 25, 100000, api.MaxVar - 25} {
			if v := shift(t, shift(t, u, by), -by); !slices.Equal(v, u) {
				t.Fatalf("%v by %d and back: %v", u, by, v)
			}
			high := shift(t, u, api.MaxVar-25)
			down := min(by, api.MaxVar-25)
			if v := shift(t, shift(t, high, -down), down); !slices.Equal(v, high) {
				t.Fatalf("%v by %d and back: %v", high, -down, v)
			}
		}
	}
}

// TestBindsShifted holds Apply and Shift together: what binds to variables make is what Shift makes.
func TestBindsShifted(t *testing.T) { // P4.2, P4.3
	for _, u := range smallTerms(5) {
		s := binds(bind(0, -1-9), bind(1, -2-9))
		if v := apply(t, s, u); !slices.Equal(v, shift(t, u, 9)) {
			t.Fatalf("%v: %v and %v", u, v, shift(t, u, 9))
		}
	}
}
