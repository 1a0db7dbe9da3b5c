package step

import (
	"slices"
	"testing"

	"lodestone/api"
)

// roomy is a copy of a row, with codes behind its length that nobody may read or change.
func roomy(u []int) []int { return append(slices.Clone(u), 0, -7)[:len(u)] }

func rowKept(u, was []int) bool {
	return slices.Equal(u[:len(was)+2], append(slices.Clone(was), 0, -7))
}

// inRoom is a copy of a system whose lists have something wrong behind their length.
func inRoom(s api.System) api.System {
	sig := append(slices.Clone(s.Sig), sym("f#", 9))
	var rules []api.Rule
	for _, a := range s.Rules {
		rules = append(rules, rule(roomy(a.L), roomy(a.R)))
	}
	rules = append(rules, rule(row(-1), row(-2)))
	return api.System{Sig: sig[:len(s.Sig)], Rules: rules[:len(s.Rules)]}
}

// roomKept tells whether a system in room is as it was, its room too.
func roomKept(s, was api.System) bool {
	for i, a := range was.Rules {
		if !rowKept(s.Rules[i].L, a.L) || !rowKept(s.Rules[i].R, a.R) {
			return false
		}
	}
	last := s.Rules[:len(was.Rules)+1][len(was.Rules)]
	return slices.Equal(last.L, row(-1)) && slices.Equal(last.R, row(-2)) &&
		slices.Equal(s.Sig[:len(was.Sig)+1], append(slices.Clone(was.Sig), sym("f#", 9)))
}

func TestArgumentsStay(t *testing.T) { // R5
	r := random(9)
	for range 200 {
		was := r.system()
		wasRow := r.subject(was)
		switch r.below(8) {
		case 0:
			was.Rules = append(was.Rules, rule(row(1), row(-1)))
		case 1:
			wasRow = wasRow[1:]
		}
		s, u := inRoom(was), roomy(wasRow)
		First(s, u)
		for _, x := range append(All(s, u), someRedexes()...) {
			Do(s, u, x)
		}
		if !roomKept(s, was) || !rowKept(u, wasRow) {
			t.Fatalf("an argument was changed: %v, %v", was, wasRow)
		}
	}
}

func TestRoomIsNotRead(t *testing.T) { // R5
	s := inRoom(sums())
	finds(t, s, roomy(row(2, 0, 2, 1, 0, 0)), redex(0, 0), redex(2, 1))
	comesTo(t, s, roomy(row(2, 0, 2, 1, 0, 0)), redex(2, 1))
	becomes(t, s, roomy(row(2, 1, 0, 0)), redex(0, 1), 1, 2, 0, 0)
	fails(t, s, roomy(row(2, 1, 0, 0)), redex(0, 2), api.ErrArg)
	fails(t, s, roomy(row(2, 1, 0, 0)), redex(4, 0), api.ErrTermPlace)
	// the room would make each of these a term
	nothing(t, s, roomy(row(2, 0)), api.ErrTermShort)
	nothing(t, s, roomy(nil), api.ErrTermShort)
	nothing(t, inRoom(over(rule(row(2, 0), row(0)))), row(0), api.ErrTermShort)
}

// spoil writes over all of a list's memory, its spare room too.
func spoil(l []int) {
	l = l[:cap(l)]
	for i := range l {
		l[i] = 1 << 40
	}
}

// TestAnswersAreNew spoils an answer, and holds that no argument and no other answer has changed.
func TestAnswersAreNew(t *testing.T) { // R5
	r := random(10)
	spoilt := 0
	for range 200 {
		was := r.system()
		wasRow := r.subject(was)
		s, u := inRoom(was), roomy(wasRow)
		l, other := All(s, u), All(s, u)
		want := slices.Clone(l)
		for _, x := range want {
			v, _ := Do(s, u, x)
			again, _ := Do(s, u, x)
			copied := slices.Clone(v)
			spoil(v)
			spoilt++
			if !roomKept(s, was) || !rowKept(u, wasRow) || !slices.Equal(again, copied) {
				t.Fatalf("Do(%v, %v, %v) shares its memory", was, wasRow, x)
			}
		}
		l = l[:cap(l)]
		for i := range l {
			l[i] = redex(1<<40, 1<<40)
		}
		if !slices.Equal(other, want) || !slices.Equal(All(s, u), want) {
			t.Fatalf("All(%v, %v) shares its memory", was, wasRow)
		}
	}
	if spoilt < 300 {
		t.Errorf("only %d terms were rewritten", spoilt)
	}
}

// TestWhatStaysIsCopied: what a step hands on as it was, a right side without variables, or an argument, is copied, too.
func TestWhatStaysIsCopied(t *testing.T) { // R5
	s := over(rule(row(2, 0, -1), row(-1)), rule(row(1, -1), row(2, 0, 0)), rule(row(2, -1, -2), row(2, -1, -2)))
	was := row(2, 0, 1, 0)
	for i := range 3 {
		u := slices.Clone(was)
		v, e := Do(s, u, redex(2*(i%2), i))
		if e != api.OK {
			t.Fatalf("Do(%v, %d): %v", u, i, e)
		}
		spoil(v)
		if !slices.Equal(u, was) || !slices.Equal(s.Rules[1].R, row(2, 0, 0)) || !slices.Equal(s.Rules[2].R, row(2, -1, -2)) {
			t.Errorf("Do(%v, %d) shares its memory", was, i)
		}
	}
}
