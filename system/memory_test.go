package system

import (
	"math"
	"slices"
	"testing"

	"lodestone/api"
)

// inRoom is a copy of a system whose lists have something wrong behind their length, that nobody may read or change.
func inRoom(s api.System) api.System {
	roomy := func(t []int) []int { return append(slices.Clone(t), 0, -7)[:len(t)] }
	sig := append(slices.Clone(s.Sig), sym("f#", 9))
	var rules []api.Rule
	for _, a := range s.Rules {
		rules = append(rules, rule(roomy(a.L), roomy(a.R)))
	}
	rules = append(rules, rule(row(-1), row(-2)))
	return api.System{Sig: sig[:len(s.Sig)], Rules: rules[:len(s.Rules)]}
}

// roomKept tells whether a system in room is as it was, its room too.
func roomKept(s, was api.System) bool {
	kept := func(t, was []int) bool { return slices.Equal(t[:len(was)+2], append(slices.Clone(was), 0, -7)) }
	for i, a := range was.Rules {
		if !kept(s.Rules[i].L, a.L) || !kept(s.Rules[i].R, a.R) {
			return false
		}
	}
	last := s.Rules[:len(was.Rules)+1][len(was.Rules)]
	return slices.Equal(last.L, row(-1)) && slices.Equal(last.R, row(-2)) &&
		slices.Equal(s.Sig[:len(was.Sig)+1], append(slices.Clone(was.Sig), sym("f#", 9)))
}

func TestArgumentsStay(t *testing.T) { // R5
	r := random(5)
	for range 300 {
		wasA := r.system(r.below(12))
		wasB := r.disguised(wasA)
		if r.below(3) == 0 {
			wasB.Rules = append(wasB.Rules, rule(row(1), row(-1)))
		}
		a, b := inRoom(wasA), inRoom(wasB)
		Check(a)
		Check(b)
		Defined(a)
		Defined(b)
		Same(a, b)
		Same(b, a)
		Same(a, a)
		if !roomKept(a, wasA) || !roomKept(b, wasB) {
			t.Fatalf("an argument was changed: %v, %v", wasA, wasB)
		}
	}
}

func TestRoomIsNotRead(t *testing.T) { // R5
	checks(t, inRoom(sums()), api.OK, 0)
	defines(t, inRoom(sums()), 2)
	same(t, inRoom(sums()), sums(), true)
	// the room would make each of these a term
	checks(t, inRoom(over(rule(row(1), row(0)))), api.ErrTermShort, 0)
	checks(t, inRoom(over(rule(row(0), row(2, 0)))), api.ErrTermShort, 0)
}

// TestAnswersAreNew spoils an answer, its spare room too, and holds that no argument and no other answer has changed.
func TestAnswersAreNew(t *testing.T) { // R5
	r := random(6)
	for range 300 {
		was := r.system(1 + r.below(20))
		s := inRoom(was)
		got, other := Defined(s), Defined(s)
		want := slices.Clone(got)
		got = got[:cap(got)]
		for i := range got {
			got[i] = 1 << 40
		}
		if !roomKept(s, was) || !slices.Equal(other, want) || !slices.Equal(Defined(s), want) {
			t.Fatalf("Defined(%v): %v, and after the spoiling of another answer: %v", was, want, other)
		}
	}
}

// TestAllArguments holds that no call panics at any arguments, and that the three calls go together.
func TestAllArguments(t *testing.T) { // R1, R2, R3
	sigs := [][]api.Symbol{nil, three(), all(), many(64), many(65), many(128), many(129), make([]api.Symbol, 3), {sym("f", -5)}, {sym("f", math.MaxInt)}, {sym("\xff", 0)}, {sym("#", 0)}}
	rows := [][]int{nil, {}, {0}, {-1}, {1, 1}, {1, -1}, {2, 0, -1}, {math.MaxInt}, {math.MinInt}, {8, 8, 8}, tower(600, -1), tower(1<<16, 0)}
	var systems []api.System
	for _, sig := range sigs {
		for _, l := range rows {
			for _, r := range rows {
				systems = append(systems, api.System{Sig: sig, Rules: []api.Rule{rule(l, r)}})
			}
		}
		systems = append(systems, api.System{Sig: sig}, api.System{Sig: sig, Rules: make([]api.Rule, 3)}, api.System{Sig: sig, Rules: make([]api.Rule, 1000)})
	}
	right := 0
	for _, s := range systems {
		e, at := Check(s)
		if e == api.OK {
			right++
		}
		if e == api.OK && at != 0 || at < -1 || at > 0 {
			t.Errorf("Check(%v): %v, %d", s, e, at)
		}
		if l := Defined(s); (len(l) > 0) != (e == api.OK && len(s.Rules) > 0) {
			t.Errorf("Defined(%v): %v, and Check: %v", s, l, e)
		}
		if Same(s, s) != (e == api.OK) {
			t.Errorf("Same of %v and itself, and Check: %v", s, e)
		}
	}
	if right < 10 {
		t.Errorf("only %d systems are right", right)
	}
}
