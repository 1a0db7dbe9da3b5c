package overlap

import (
	"slices"
	"testing"

	"lodestone/api"
)

// in is a copy of a list with items behind its length that nobody may read or change.
func in[T any](l []T, behind ...T) []T {
	return append(slices.Clone(l), behind...)[:len(l)]
}

// inRoom is a system each list of which has something behind its length.
func inRoom(s api.System) api.System {
	var l []api.Rule
	for _, a := range s.Rules {
		l = append(l, rule(in(a.L, 0, -7), in(a.R, 0, -7)))
	}
	return api.System{Sig: in(s.Sig, sym("f#", 9)), Rules: in(l, rule(row(-1), row(-2)))}
}

func roomKept(s, was api.System) bool {
	kept := func(t, was []int) bool { return slices.Equal(t[:len(was)+2], append(slices.Clone(was), 0, -7)) }
	for i, a := range was.Rules {
		if !kept(s.Rules[i].L, a.L) || !kept(s.Rules[i].R, a.R) {
			return false
		}
	}
	last := s.Rules[:len(was.Rules)+1][len(was.Rules)]
	return len(s.Rules) == len(was.Rules) && slices.Equal(last.L, row(-1)) && slices.Equal(last.R, row(-2)) &&
		slices.Equal(s.Sig[:len(was.Sig)+1], append(slices.Clone(was.Sig), sym("f#", 9)))
}

func TestArgumentsStay(t *testing.T) { // R5
	r := random(6)
	for range 500 {
		was := r.system()
		if r.below(5) == 0 {
			was.Rules = append(was.Rules, rule(row(1), row(-1)))
		}
		s := inRoom(was)
		All(s)
		for outer := -1; outer <= len(s.Rules); outer++ {
			for inner := -1; inner <= len(s.Rules); inner++ {
				Of(s, outer, inner)
			}
		}
		if !roomKept(s, was) {
			t.Fatalf("an argument was changed: %v", was)
		}
	}
}

func TestRoomIsNotRead(t *testing.T) { // R5
	r := random(7)
	for range 500 {
		s := r.system()
		has(t, inRoom(s), plainAll(s)...)
	}
	// the room would make this rule right, and this number that of a rule
	short := over(rule(in(row(1), 0), row(0)))
	hasNot(t, short, api.ErrTermShort)
	meetNot(t, short, 0, 0, api.ErrTermShort)
	behind := over(in(rules(rule(row(0), row(1, 0))), rule(row(0), row(0)))...)
	meetNot(t, behind, 0, 1, api.ErrArg)
	meetNot(t, behind, 1, 0, api.ErrArg)
}

// spoil writes over all of a list's memory, its spare room too.
func spoil(l []int) {
	l = l[:cap(l)]
	for i := range l {
		l[i] = 1 << 40
	}
}

// copied are critical pairs in memory of their own.
func copied(l []api.Critical) []api.Critical {
	var out []api.Critical
	for _, c := range l {
		c.Peak, c.L, c.R = slices.Clone(c.Peak), slices.Clone(c.L), slices.Clone(c.R)
		out = append(out, c)
	}
	return out
}

// ownMemory spoils one row of an answer after the other, and holds that no argument, no other row and no other answer has changed.
func ownMemory(t *testing.T, s, was api.System, l, other []api.Critical) int {
	t.Helper()
	want := copied(other)
	for i := range l {
		for k, part := range [][]int{l[i].Peak, l[i].L, l[i].R} {
			spoil(part)
			rest := [][]int{l[i].Peak, l[i].L, l[i].R}[k+1:]
			wanted := [][]int{want[i].Peak, want[i].L, want[i].R}[k+1:]
			if !roomKept(s, was) || !slices.EqualFunc(rest, wanted, slices.Equal[[]int]) || !sameCriticals(l[i+1:], want[i+1:]) {
				t.Fatalf("%v: the row %d of %d shares its memory", was, k, i)
			}
		}
	}
	n := len(l)
	clear(l[:cap(l)])
	if !sameCriticals(other, want) {
		t.Fatalf("%v: two answers share memory", was)
	}
	return n
}

func TestAnswersAreNew(t *testing.T) { // R5
	r := random(8)
	n := 0
	for range 500 {
		was := r.system()
		s := inRoom(was)
		for outer := range s.Rules {
			for inner := range s.Rules {
				l, _ := Of(s, outer, inner)
				other, _ := Of(s, outer, inner)
				n += ownMemory(t, s, was, l, other)
			}
		}
		l, _ := All(s)
		other, _ := All(s)
		n += ownMemory(t, s, was, l, other)
	}
	if n < 1000 {
		t.Errorf("only %d pairs", n)
	}
}

// TestOneRowTwice: the same memory may be handed in in several places.
func TestOneRowTwice(t *testing.T) { // R5
	shared := row(1, 1, 1, -1)
	s := over(rule(shared, shared[1:]), rule(shared[1:], shared[2:]))
	if n := asPlain(t, s); n != 8 {
		t.Errorf("%d pairs", n)
	}
	if !slices.Equal(shared, row(1, 1, 1, -1)) {
		t.Errorf("%v", shared)
	}
}

// TestNothingIsKept: what one call was given does not show in the next one.
func TestNothingIsKept(t *testing.T) { // R6
	twice := over(rule(row(1, 1, -1), row(-1)))
	for range 3 {
		has(t, twice, api.Critical{At: 1, Spot: 1, Peak: row(1, 1, 1, -1), L: row(1, -1), R: row(1, -1)})
		has(t, sums())
		meet(t, twice, 0, 0, api.Critical{At: 1, Spot: 1, Peak: row(1, 1, 1, -1), L: row(1, -1), R: row(1, -1)})
		meetNot(t, twice, 0, 1, api.ErrArg)
		meet(t, sums(), 0, 1)
	}
}
