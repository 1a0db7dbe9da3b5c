package walk

import (
	"slices"
	"testing"

	"lodestone/api"
)

// roomy is a copy of a row, with codes behind its length that nobody may read or change.
func roomy(u []int) []int { return append(slices.Clone(u), 0, -7)[:len(u)] }

func rowKept(u, was []int) bool {
	return slices.Equal(u[:len(was)+2], append(slices.Clone(was), 0, -7))
}

// roomySteps is a copy of a row of redexes, with one behind its length that can't be.
func roomySteps(l []api.Redex) []api.Redex {
	return append(slices.Clone(l), redex(-1, -1))[:len(l)]
}

func stepsKept(l, was []api.Redex) bool {
	return slices.Equal(l[:len(was)+1], append(slices.Clone(was), redex(-1, -1)))
}

// inRoom is a copy of a system whose lists have something wrong behind their length.
func inRoom(s api.System) api.System {
	sig := append(slices.Clone(s.Sig), sym("f#", 9))
	var rules []api.Rule
	for _, a := range s.Rules {
		rules = append(rules, rule(roomy(a.L), roomy(a.R)))
	}
	rules = append(rules, rule(row(-1), row(-2)))
	return api.System{Sig: sig[:len(s.Sig)], Rules: rules[:len(s.Rules)]}
}

// roomKept tells whether a system in room is as it was, its room too.
func roomKept(s, was api.System) bool {
	for i, a := range was.Rules {
		if !rowKept(s.Rules[i].L, a.L) || !rowKept(s.Rules[i].R, a.R) {
			return false
		}
	}
	last := s.Rules[:len(was.Rules)+1][len(was.Rules)]
	return slices.Equal(last.L, row(-1)) && slices.Equal(last.R, row(-2)) &&
		slices.Equal(s.Sig[:len(was.Sig)+1], append(slices.Clone(was.Sig), sym("f#", 9)))
}

func TestArgumentsStay(t *testing.T) { // R5
	r := random(8)
	for range 200 {
		was := r.system()
		wasRow := r.subject(was)
		wasSteps := r.someSteps(was, wasRow)
		switch r.below(8) {
		case 0:
			was.Rules = append(was.Rules, rule(row(1), row(-1)))
		case 1:
			wasRow = wasRow[1:]
		}
		s, u, l := inRoom(was), roomy(wasRow), roomySteps(wasSteps)
		for _, most := range row(-1, 0, 1, 9) {
			Walk(s, u, most)
		}
		Along(s, u, l)
		Along(s, u, l[:0])
		if !roomKept(s, was) || !rowKept(u, wasRow) || !stepsKept(l, wasSteps) {
			t.Fatalf("an argument was changed: %v, %v, %v", was, wasRow, wasSteps)
		}
	}
}

func TestRoomIsNotRead(t *testing.T) { // R5
	s, path := inRoom(sums()), steps(redex(0, 1), redex(1, 0))
	u := roomy(row(2, 1, 0, 1, 0))
	walks(t, s, u, 9, api.Walk{Steps: path, End: row(1, 1, 0), Normal: true})
	leads(t, s, u, roomySteps(path), 1, 1, 0)
	leads(t, s, u, roomySteps(nil), 2, 1, 0, 1, 0)
	stops(t, s, u, roomySteps(steps(redex(0, 2))), api.ErrArg, 0)
	stops(t, s, u, roomySteps(steps(redex(5, 0))), api.ErrTermPlace, 0)
	// the room would make each of these a term
	nothing(t, s, roomy(row(2, 0)), api.ErrTermShort)
	nothing(t, s, roomy(nil), api.ErrTermShort)
	nothing(t, inRoom(over(rule(row(2, 0), row(0)))), row(0), api.ErrTermShort)
	// with its room this one would be too big
	walks(t, s, roomy(tower(512, 0)), 1, api.Walk{End: tower(512, 0), Normal: true})
	leads(t, s, roomy(tower(512, 0)), nil, tower(512, 0)...)
}

// spoil and spoilSteps write over all of a list's memory, its spare room too.
func spoil(l []int) {
	l = l[:cap(l)]
	for i := range l {
		l[i] = 1 << 40
	}
}

func spoilSteps(l []api.Redex) {
	l = l[:cap(l)]
	for i := range l {
		l[i] = redex(1<<40, 1<<40)
	}
}

// TestAnswersAreNew spoils an answer, and holds that no argument and no other answer has changed.
func TestAnswersAreNew(t *testing.T) { // R5
	spoilt := 0
	eachSubject(9, 4, func(was api.System, wasRow []int) {
		s, u := inRoom(was), roomy(wasRow)
		for most := range 5 {
			w, e := Walk(s, u, most)
			again, _ := Walk(s, u, most)
			if e != api.OK {
				continue
			}
			wasSteps := slices.Clone(w.Steps)
			l := roomySteps(wasSteps)
			v, _, _ := Along(s, u, l)
			other, _, _ := Along(s, u, l)
			end := slices.Clone(w.End)
			spoil(w.End)
			spoilSteps(w.Steps)
			spoil(v)
			spoilt++
			if !roomKept(s, was) || !rowKept(u, wasRow) || !stepsKept(l, wasSteps) {
				t.Fatalf("Walk(%v, %v, %d): an argument shares its memory", was, wasRow, most)
			}
			if !slices.Equal(again.End, end) || !slices.Equal(again.Steps, wasSteps) || !slices.Equal(other, end) {
				t.Fatalf("Walk(%v, %v, %d): answers share their memory", was, wasRow, most)
			}
		}
	})
	if spoilt < 1000 {
		t.Errorf("only %d walks", spoilt)
	}
}

// TestWhatStaysIsCopied: a term that no step changes is copied, too, and so is a right side that a step hands on.
func TestWhatStaysIsCopied(t *testing.T) { // R5
	s := over(rule(row(1, 0), row(2, 0, 0)))
	for _, was := range [][]int{{0}, {2, 0, 0}, {1, 0}} {
		u := slices.Clone(was)
		for most := range 3 {
			w, _ := Walk(s, u, most)
			v, _, _ := Along(s, u, w.Steps)
			spoil(w.End)
			spoil(v)
			if !slices.Equal(u, was) || !slices.Equal(s.Rules[0].R, row(2, 0, 0)) {
				t.Fatalf("Walk(%v, %d) shares its memory", was, most)
			}
		}
	}
}
