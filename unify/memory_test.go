package unify

import (
	"math"
	"slices"
	"testing"

	"lodestone/api"
)

// inRoom is a copy of a row, with codes behind its length that nobody may read or change.
func inRoom(u []int) []int { return append(slices.Clone(u), 0, -7)[:len(u)] }

func roomKept(u, was []int) bool {
	return slices.Equal(u[:len(was)+2], append(slices.Clone(was), 0, -7))
}

func TestArgumentsStay(t *testing.T) { // R5
	r := random(6)
	for range 300 {
		u := r.term(1 + r.below(40))
		a, s := r.general(u, nil)
		b, _ := r.general(u, s)
		if r.below(4) == 0 {
			b = b[:r.below(len(b))]
		}
		sig := append(all(), sym("1", 99))[:9]
		ar, br := inRoom(a), inRoom(b)
		Unify(sig, ar, br)
		Can(sig, br, ar)
		if !roomKept(ar, a) || !roomKept(br, b) || !slices.Equal(sig[:10], append(all(), sym("1", 99))) {
			t.Fatalf("an argument was changed: %v, %v, %v", ar, br, sig[:10])
		}
	}
}

func TestRoomIsNotRead(t *testing.T) { // R5
	sig := append(three(), sym("1", 99))[:3]
	holds(t, sig, inRoom(row(2, -1, -2)), inRoom(row(2, 1, 0, -1)), binds(bind(0, 1, 0), bind(1, 1, 0)), api.OK)
	// the room would make each of these a term
	failing(t, inRoom(row(1)), inRoom(row(1)), api.ErrTermShort)
	failing(t, row(-1), inRoom(row(2, 0)), api.ErrTermShort)
}

// spoil writes over all of a list's memory, its spare room too.
func spoil(l []int) {
	l = l[:cap(l)]
	for i := range l {
		l[i] = 1 << 40
	}
}

// TestAnswersAreNew spoils one term of an answer after the other, and holds that no argument, no other term and no other answer has changed.
func TestAnswersAreNew(t *testing.T) { // R5
	r := random(7)
	spoilt := 0
	for range 300 {
		u := r.term(1 + r.below(40))
		wasA, general := r.general(u, nil)
		wasB, _ := r.general(u, general)
		a, b := inRoom(wasA), inRoom(wasB)
		s, e := Unify(all(), a, b)
		other, f := Unify(all(), a, b)
		if e != api.OK || f != api.OK {
			t.Fatalf("Unify(%v, %v): %v, %v", a, b, e, f)
		}
		for i := range s {
			spoilt++
			spoil(s[i].T)
			if !roomKept(a, wasA) || !roomKept(b, wasB) || !sameBinds(s[i+1:], other[i+1:]) {
				t.Fatalf("Unify(%v, %v): the term of %d shares its memory", wasA, wasB, s[i].Var)
			}
		}
		clear(s[:cap(s)])
		if want, _ := Unify(all(), wasA, wasB); !sameBinds(other, want) {
			t.Fatalf("Unify(%v, %v): two answers share memory", wasA, wasB)
		}
	}
	if spoilt < 300 {
		t.Errorf("only %d terms were bound", spoilt)
	}
}

// TestAlikeTermsShareNothing: variables that are bound to the same term have a row each.
func TestAlikeTermsShareNothing(t *testing.T) { // R5
	s, e := Unify(three(), list(row(-1), row(-2), row(-3)), list(row(-2), row(-3), row(1, 1, 0)))
	if e != api.OK || !sameBinds(s, binds(bind(0, 1, 1, 0), bind(1, 1, 1, 0), bind(2, 1, 1, 0))) {
		t.Fatalf("%v, %v", s, e)
	}
	spoil(s[1].T)
	if !slices.Equal(s[0].T, row(1, 1, 0)) || !slices.Equal(s[2].T, row(1, 1, 0)) {
		t.Errorf("%v", s)
	}
}

// TestAllArguments holds that no call panics at any arguments, and that beside an error nothing is told.
func TestAllArguments(t *testing.T) { // R1, R2
	sigs := [][]api.Symbol{nil, three(), all(), many(128), make([]api.Symbol, 3), {sym("f", -5)}, {sym("f", math.MaxInt)}}
	rows := [][]int{nil, {}, {0}, {-1}, {1, 1}, {2, 0, -1}, {2, -1, -1}, {math.MaxInt}, {math.MinInt}, {8, 8, 8}, tower(600, -1)}
	for _, sig := range sigs {
		for _, a := range rows {
			for _, b := range rows {
				s, e := Unify(sig, a, b)
				if e != api.OK && len(s) > 0 {
					t.Errorf("Unify(%v; %v, %v): %v, %v", sig, a, b, s, e)
				}
				if Can(sig, a, b) != (e == api.OK || e == api.ErrTooBig) {
					t.Errorf("Can(%v; %v, %v), and Unify: %v", sig, a, b, e)
				}
			}
		}
	}
}
