package match

import (
	"math"
	"slices"
	"testing"

	"lodestone/api"
)

// inRoom is a copy of a row, with codes behind its length that nobody may read or change.
func inRoom(u []int) []int { return append(slices.Clone(u), 0, -7)[:len(u)] }

func roomKept(u, was []int) bool {
	return slices.Equal(u[:len(was)+2], append(slices.Clone(was), 0, -7))
}

func TestArgumentsStay(t *testing.T) { // R5
	r := random(6)
	for range 300 {
		p := r.term(1 + r.below(20))
		u := applied(t, all(), r.binds(), p)
		if r.below(4) == 0 {
			u = u[:r.below(len(u))]
		}
		sig := append(all(), sym("1", 99))[:9]
		pr, ur := inRoom(p), inRoom(u)
		Match(sig, pr, ur)
		Match(sig, ur, pr)
		Variant(sig, rule(pr, ur), rule(ur, pr))
		if !roomKept(pr, p) || !roomKept(ur, u) || !slices.Equal(sig[:10], append(all(), sym("1", 99))) {
			t.Fatalf("an argument was changed: %v, %v, %v", pr, ur, sig[:10])
		}
	}
}

func TestRoomIsNotRead(t *testing.T) { // R5
	sig := append(three(), sym("1", 99))[:3]
	if s, ok := Match(sig, inRoom(row(2, -1, -2)), inRoom(row(2, 1, 0, 0))); !ok || !sameBinds(s, binds(bind(0, 1, 0), bind(1, 0))) {
		t.Errorf("Match: %v, %v", s, ok)
	}
	// the room would make each of these a term
	wants(t, inRoom(row(1)), inRoom(row(1)), nil, false)
	wants(t, row(-1), inRoom(row(2, 0)), nil, false)
	a := rule(inRoom(row(2, -1)), row(0))
	variants(t, a, a, false)
	if a = rule(inRoom(row(1, -1)), inRoom(row(-1))); !Variant(sig, a, a) {
		t.Errorf("Variant: false")
	}
}

// spoil writes over all of a list's memory, its spare room too.
func spoil(l []int) {
	l = l[:cap(l)]
	for i := range l {
		l[i] = 1 << 40
	}
}

// TestAnswersAreNew spoils one term of an answer after the other, and holds that no argument, no other term and no other answer has changed.
func TestAnswersAreNew(t *testing.T) { // R5
	r := random(7)
	spoilt := 0
	for range 300 {
		wasP := r.term(1 + r.below(20))
		wasT := applied(t, all(), r.binds(), wasP)
		p, u := inRoom(wasP), inRoom(wasT)
		s, ok := Match(all(), p, u)
		other, again := Match(all(), p, u)
		if !ok || !again {
			t.Fatalf("Match(%v, %v): false", p, u)
		}
		for i := range s {
			spoilt++
			spoil(s[i].T)
			if !roomKept(p, wasP) || !roomKept(u, wasT) || !sameBinds(s[i+1:], other[i+1:]) {
				t.Fatalf("Match(%v, %v): the term of %d shares its memory", wasP, wasT, s[i].Var)
			}
		}
		clear(s[:cap(s)])
		if want, _ := Match(all(), wasP, wasT); !sameBinds(other, want) {
			t.Fatalf("Match(%v, %v): two answers share memory", wasP, wasT)
		}
	}
	if spoilt < 300 {
		t.Errorf("only %d terms were bound", spoilt)
	}
}

// TestAllArguments holds that no call panics at any arguments, and that beside false nothing is told.
func TestAllArguments(t *testing.T) { // R1, R2
	sigs := [][]api.Symbol{nil, three(), all(), many(128), make([]api.Symbol, 3), {sym("f", -5)}, {sym("f", math.MaxInt)}}
	rows := [][]int{nil, {}, {0}, {-1}, {1, 1}, {2, 0, -1}, {2, -1, -1}, {math.MaxInt}, {math.MinInt}, {8, 8, 8}, tower(600, -1)}
	for _, sig := range sigs {
		for _, p := range rows {
			for _, u := range rows {
				s, ok := Match(sig, p, u)
				if !ok && len(s) > 0 || ok && len(s) != len(varsOf(p)) {
					t.Errorf("Match(%v; %v, %v): %v, %v", sig, p, u, s, ok)
				}
				if Variant(sig, rule(p, u), rule(u, p)) && !slices.Equal(made(binds(bind(0, 0)), p), made(binds(bind(0, 0)), u)) {
					t.Errorf("Variant(%v; %v, %v): true", sig, p, u)
				}
			}
		}
	}
}
