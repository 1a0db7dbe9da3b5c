package pairs

import (
	"slices"
	"testing"

	"lodestone/api"
)

// in is a copy of a list with items behind its length that nobody may read or change.
func in[T any](l []T, behind ...T) []T {
	return append(slices.Clone(l), behind...)[:len(l)]
}

// roomyRules are rules each list of which has something behind its length.
func roomyRules(l []api.Rule) []api.Rule {
	var out []api.Rule
	for _, a := range l {
		out = append(out, rule(in(a.L, 0, -7), in(a.R, 0, -7)))
	}
	return in(out, rule(row(-1), row(-2)))
}

func rulesKept(l, was []api.Rule) bool {
	kept := func(t, was []int) bool { return slices.Equal(t[:len(was)+2], append(slices.Clone(was), 0, -7)) }
	for i, a := range was {
		if !kept(l[i].L, a.L) || !kept(l[i].R, a.R) {
			return false
		}
	}
	last := l[:len(was)+1][len(was)]
	return len(l) == len(was) && slices.Equal(last.L, row(-1)) && slices.Equal(last.R, row(-2))
}

func inRoom(s api.System) api.System {
	return api.System{Sig: in(s.Sig, sym("f#", 9)), Rules: roomyRules(s.Rules)}
}

func roomKept(s, was api.System) bool {
	return rulesKept(s.Rules, was.Rules) && slices.Equal(s.Sig[:len(was.Sig)+1], append(slices.Clone(was.Sig), sym("f#", 9)))
}

func copied(l []api.Rule) []api.Rule {
	var out []api.Rule
	for _, a := range l {
		out = append(out, rule(slices.Clone(a.L), slices.Clone(a.R)))
	}
	return out
}

func TestArgumentsStay(t *testing.T) { // R5
	r := random(8)
	for range 300 {
		was := r.system()
		wasPairs := r.pairs(was, 1+r.below(6))
		if r.below(5) == 0 {
			was.Rules = append(was.Rules, rule(row(1), row(-1)))
		}
		s, l := inRoom(was), roomyRules(wasPairs)
		Extend(s.Sig)
		Of(s)
		Graph(s, l)
		for _, p := range l {
			for _, q := range l {
				Edge(s, p, q)
			}
		}
		if !roomKept(s, was) || !rulesKept(l, wasPairs) {
			t.Fatalf("an argument was changed: %v, %v", was, wasPairs)
		}
	}
}

func TestRoomIsNotRead(t *testing.T) { // R5
	s := inRoom(sums())
	extends(t, s.Sig, sym("zero", 0), sym("s", 1), sym("plus", 2), sym("zero#", 0), sym("s#", 1), sym("plus#", 2))
	has(t, s, rule(row(5, 1, -1, -2), row(5, -1, -2)))
	edge(t, s, in(row(5, -1, 0), 0), in(row(5, 1, -1, -2), 0), true)
	follows(t, s, roomyRules(rules(rule(row(4, 0), row(4, -1)))), row(0))
	// the room would make each of these a term
	edge(t, s, in(row(5, 0), 0), row(5, -1, -2), false)
	edge(t, s, row(5, -1, -2), in(row(5, 0), 0), false)
	edge(t, s, in(row(), 3), in(row(), 3), false)
	follows(t, s, rules(rule(in(row(4), 0), in(row(4), 0))), nil)
	// and there these would be defined
	more := over(append(sums().Rules, rule(row(1, -1), row(0)))[:2]...)
	has(t, more, rule(row(5, 1, -1, -2), row(5, -1, -2)))
	edge(t, more, row(4, 1, 0), row(4, 0), false)
}

// spoil writes over all of a list's memory, its spare room too.
func spoil(l []int) {
	l = l[:cap(l)]
	for i := range l {
		l[i] = 1 << 40
	}
}

func TestExtendedIsNew(t *testing.T) { // R5
	for _, n := range []int{1, 3, 64} {
		sig := many(n)
		got, _ := Extend(sig)
		again, _ := Extend(sig)
		want := slices.Clone(again)
		clear(got[:cap(got)])
		if !slices.Equal(sig, many(n)) || !slices.Equal(again, want) {
			t.Errorf("Extend of %d symbols shares its memory", n)
		}
	}
}

// TestPairsAreNew spoils one row of an answer after the other, and holds that no argument, no other row and no other answer has changed.
func TestPairsAreNew(t *testing.T) { // R5
	r := random(9)
	spoilt := 0
	for range 300 {
		was := r.system()
		s := inRoom(was)
		l, _ := Of(s)
		other, _ := Of(s)
		want := copied(other)
		for i := range l {
			spoilt++
			spoil(l[i].L)
			if !roomKept(s, was) || !slices.Equal(l[i].R, want[i].R) || !sameRules(l[i+1:], want[i+1:]) {
				t.Fatalf("Of(%v): the left side of %d shares its memory", was, i)
			}
			spoil(l[i].R)
			if !roomKept(s, was) || !sameRules(l[i+1:], want[i+1:]) {
				t.Fatalf("Of(%v): the right side of %d shares its memory", was, i)
			}
		}
		clear(l[:cap(l)])
		if !sameRules(other, want) {
			t.Fatalf("Of(%v): two answers share memory", was)
		}
	}
	if spoilt < 300 {
		t.Errorf("only %d pairs", spoilt)
	}
}

func TestGraphIsNew(t *testing.T) { // R5
	r := random(10)
	spoilt := 0
	for range 300 {
		s := r.system()
		was := r.pairs(s, 6)
		l := roomyRules(was)
		g, other := Graph(s, l), Graph(s, l)
		want := plainGraph(s, was)
		for i := range g {
			spoilt += len(g[i])
			spoil(g[i])
			if !rulesKept(l, was) || !sameRows(g[i+1:], want[i+1:]) {
				t.Fatalf("Graph(%v, %v): the row %d shares its memory", s, was, i)
			}
		}
		clear(g[:cap(g)])
		if !sameRows(other, want) {
			t.Fatalf("Graph(%v, %v): two answers share memory", s, was)
		}
	}
	if spoilt < 300 {
		t.Errorf("only %d edges", spoilt)
	}
}

// TestOneRowTwice: the same memory may be handed in in several places.
func TestOneRowTwice(t *testing.T) { // R5
	side := row(4, 1, 1, -1)
	p := rule(side, side)
	follows(t, over(), rules(p, p), row(0, 1), row(0, 1))
	shared := row(1, 1, 1, -1)
	s := over(rule(shared, shared[1:]), rule(shared[1:], shared[2:]))
	has(t, s,
		rule(row(4, 1, 1, -1), row(4, 1, -1)), rule(row(4, 1, 1, -1), row(4, -1)),
		rule(row(4, 1, -1), row(4, -1)))
	if !slices.Equal(shared, row(1, 1, 1, -1)) {
		t.Errorf("%v", shared)
	}
}

// TestNothingIsKept: what one call was given does not show in the next one.
func TestNothingIsKept(t *testing.T) { // R6
	for range 3 {
		edge(t, sums(), row(4, 2, 0, 0), row(4, 0), true)
		edge(t, over(), row(4, 2, 0, 0), row(4, 0), false)
		has(t, sums(), rule(row(5, 1, -1, -2), row(5, -1, -2)))
		has(t, over(rule(row(1, -1), row(2, -1, 1, -1))), rule(row(4, -1), row(4, -1)))
		edge(t, over(), row(4, 1, 0), row(4, 1, 0), true)
		edge(t, api.System{Sig: three()[:2]}, row(4, 1, 0), row(4, 1, 0), false)
	}
}
