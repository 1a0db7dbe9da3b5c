package norm

import (
	"slices"
	"testing"

	"lodestone/api"
)

// in is a copy of a list with items behind its length that nobody may read or change.
func in[T any](l []T, behind ...T) []T {
	return append(slices.Clone(l), behind...)[:len(l)]
}

// whole is a list with what stands behind its length.
func whole[T any](l []T) []T { return l[:cap(l)] }

// systemInRoom is a copy of a system each list of which has something wrong behind its length.
func systemInRoom(s api.System) api.System {
	var rules []api.Rule
	for _, a := range s.Rules {
		rules = append(rules, rule(in(a.L, 0, -7), in(a.R, 0, -7)))
	}
	return api.System{Sig: in(s.Sig, sym("f#", 99)), Rules: in(rules, rule(row(-1), row(-2)))}
}

// nodesInRoom is a copy of a certificate each list of which has something wrong behind its length.
func nodesInRoom(l []api.Node) []api.Node {
	var out []api.Node
	for _, node := range l {
		var ints []api.Interp
		for _, a := range node.Ints {
			var p []api.Mono
			for _, m := range a.P {
				p = append(p, api.Mono{Coef: in(m.Coef, 5, 0), Exps: in(m.Exps, 5, 0)})
			}
			ints = append(ints, api.Interp{Sym: a.Sym, P: in(p, mono(0, -1))})
		}
		node.Prec, node.Ints = in(node.Prec, [2]int{1, 1}), in(ints, api.Interp{Sym: -1})
		out = append(out, node)
	}
	return in(out, api.Node{Kind: 9, Kids: -1})
}

// sameRoom and sameNodes hold two copies in rooms against each other, with what stands behind each list's length.
func sameRoom(a, b api.System) bool {
	return len(a.Rules) == len(b.Rules) && slices.Equal(whole(a.Sig), whole(b.Sig)) && slices.EqualFunc(whole(a.Rules), whole(b.Rules), func(x, y api.Rule) bool {
		return slices.Equal(whole(x.L), whole(y.L)) && slices.Equal(whole(x.R), whole(y.R))
	})
}

func sameNodes(a, b []api.Node) bool {
	return len(a) == len(b) && slices.EqualFunc(whole(a), whole(b), func(x, y api.Node) bool {
		return x.Kind == y.Kind && x.Kids == y.Kids && slices.Equal(whole(x.Prec), whole(y.Prec)) && slices.EqualFunc(whole(x.Ints), whole(y.Ints), func(p, q api.Interp) bool {
			return p.Sym == q.Sym && slices.EqualFunc(whole(p.P), whole(q.P), func(m, n api.Mono) bool {
				return slices.Equal(whole(m.Coef), whole(n.Coef)) && slices.Equal(whole(m.Exps), whole(n.Exps))
			})
		})
	})
}

// spoil, spoilSystem and spoilNodes write over all of a list's memory, its spare room too.
func spoil(l []int) {
	l = whole(l)
	for i := range l {
		l[i] = 1 << 40
	}
}

func spoilSystem(s api.System) {
	for i, a := range whole(s.Rules) {
		spoil(a.L)
		spoil(a.R)
		whole(s.Rules)[i] = rule(row(-1), row(-2))
	}
	for i := range whole(s.Sig) {
		whole(s.Sig)[i] = sym("f#", 99)
	}
}

func spoilNodes(l []api.Node) {
	for i, node := range whole(l) {
		for k := range whole(node.Prec) {
			whole(node.Prec)[k] = [2]int{1, 1}
		}
		for k, a := range whole(node.Ints) {
			clear(whole(a.P))
			whole(node.Ints)[k] = api.Interp{Sym: -1}
		}
		whole(l)[i] = api.Node{Kind: 9, Kids: -1}
	}
}

// eachCertified hands out systems with certificates, right ones and wrong ones.
func eachCertified(seed random, hold func(r *random, s api.System, l []api.Node)) {
	r := seed
	for _, c := range allSystems() {
		hold(&r, c.s, c.l)
		hold(&r, c.s, paths())
		hold(&r, c.s, slices.Repeat(c.l, 65))
	}
	for _, w := range wrongSystems() {
		hold(&r, w.s, plusAboveS())
	}
	for range 100 {
		s, l := r.system()
		hold(&r, s, l)
	}
}

func TestArgumentsStay(t *testing.T) { // R5
	norms := 0
	eachCertified(8, func(r *random, s api.System, l []api.Node) {
		sr, lr := systemInRoom(s), nodesInRoom(l)
		n, e := New(sr, lr)
		if m, f := New(s, l); f != e || (m == nil) != (n == nil) {
			t.Fatalf("New(%v, %v): %v, and in room %v", s, l, f, e)
		}
		if n != nil {
			norms++
			for range 10 {
				was := r.subject(s)
				if !isShort(s, was, 200) {
					continue
				}
				u := in(was, 0, -7)
				n.Normal(u)
				n.Normal(u[:len(u)-1])
				if !slices.Equal(whole(u), whole(in(was, 0, -7))) {
					t.Fatalf("Normal(%v) changed it: %v", was, u)
				}
			}
			n.System()
		}
		if !sameRoom(sr, systemInRoom(s)) || !sameNodes(lr, nodesInRoom(l)) {
			t.Fatalf("an argument was changed: %v, %v", sr, lr)
		}
	})
	if norms < 100 {
		t.Errorf("only %d", norms)
	}
}

// TestRoomIsNotRead: what stands behind the lists would make others of them.
func TestRoomIsNotRead(t *testing.T) { // R5
	n := built(t, systemInRoom(sums()), nodesInRoom(plusAboveS()))
	if s := n.System(); !sameSystem(s, sums()) {
		t.Errorf("System(): %v", s)
	}
	becomes(t, n, in(row(2, 1, 0, 1, 0), 0, 0), 1, 1, 0)
	becomes(t, n, in(tower(512, 0), 0), tower(512, 0)...)
	stays(t, n, in(row(2, 0), 0), api.ErrTermShort)
	stays(t, n, in(row(), 0), api.ErrTermShort)
	fails(t, sums(), plusAboveS()[:0], api.ErrNormRefused)
	fails(t, systemInRoom(over(rule(row(2, 0), row(0)))), paths(), api.ErrTermShort)
	built(t, sums(), slices.Concat(plusAboveS(), make([]api.Node, 64))[:1])
}

// answers are what a Norm makes of drawn terms.
func answers(n *Norm, subjects [][]int) ([][]int, []api.Errno) {
	var ends [][]int
	var errors []api.Errno
	for _, u := range subjects {
		end, e := n.Normal(u)
		ends, errors = append(ends, end), append(errors, e)
	}
	return ends, errors
}

// TestWrittenLater: what is written into the system and the certificate when there is a Norm, into what System answers, and into normal forms, changes no later answer.
func TestWrittenLater(t *testing.T) { // P16.1, P16.3, R5
	norms := 0
	eachCertified(9, func(r *random, s api.System, l []api.Node) {
		mine, tree := systemInRoom(s), nodesInRoom(l)
		n, e := New(mine, tree)
		if e != api.OK {
			return
		}
		norms++
		var subjects [][]int
		for range 10 {
			if u := r.subject(s); isShort(s, u, 200) {
				subjects = append(subjects, u)
			}
		}
		was, wasErrors := answers(built(t, s, l), subjects)
		hold := func(when string) {
			ends, errors := answers(n, subjects)
			if !slices.EqualFunc(ends, was, slices.Equal[[]int]) || !slices.Equal(errors, wasErrors) || !sameSystem(n.System(), s) {
				t.Fatalf("%s: a Norm of %v answers otherwise: %v, %v", when, s, ends, n.System())
			}
			for _, end := range ends {
				spoil(end)
			}
		}
		hold("at once")
		spoilSystem(mine)
		hold("when the system was written over")
		spoilNodes(tree)
		hold("when the certificate was written over")
		told, again := n.System(), n.System()
		spoilSystem(told)
		hold("when what System tells was written over")
		if !sameSystem(again, s) {
			t.Fatalf("two answers of System share their memory: %v", again)
		}
	})
	if norms < 100 {
		t.Errorf("only %d", norms)
	}
}

// TestAnswersAreNew: a term that no step changes is copied, too, and so is a right side that a step hands on; two answers share nothing.
func TestAnswersAreNew(t *testing.T) { // R5
	n := built(t, over(rule(row(1, 0), row(2, 0, 0))), paths([2]int{1, 2}))
	for _, was := range [][]int{{0}, {2, 0, 0}, {1, 0}, {-1}, {1, 1, 0}} {
		u := in(was, 0, -7)
		one, _ := n.Normal(u)
		two, _ := n.Normal(u)
		want := slices.Clone(two)
		spoil(one)
		if !slices.Equal(whole(u), whole(in(was, 0, -7))) || !slices.Equal(two, want) {
			t.Fatalf("Normal(%v) shares its memory: %v, %v", was, u, two)
		}
		becomes(t, n, u, want...)
		spoil(u)
		if !slices.Equal(two, want) {
			t.Fatalf("Normal(%v) is kept in it: %v", was, two)
		}
	}
}

// TestOneListSeveralTimes: the same memory may be handed in in several places; what comes out shares none.
func TestOneListSeveralTimes(t *testing.T) { // R5
	shared := row(1, 1, 1, -1)
	s := over(rule(shared, shared[1:]), rule(shared, shared[1:]), rule(shared[1:], shared[2:]))
	n := built(t, s, paths())
	told := n.System()
	spoil(told.Rules[0].L)
	spoil(told.Rules[2].R)
	if a := told.Rules[1]; !slices.Equal(a.L, shared) || !slices.Equal(a.R, shared[1:]) || !slices.Equal(told.Rules[2].L, shared[1:]) {
		t.Errorf("rows share their memory: %v", told)
	}
	becomes(t, n, shared, shared[2:]...)
	spoil(shared)
	becomes(t, n, row(1, 1, 1, -1), 1, -1)
}

// TestNormsKnowNothingOfOneAnother: what one is asked changes nothing of another one, though both were made of the same system.
func TestNormsKnowNothingOfOneAnother(t *testing.T) { // R6
	s := sums()
	one := built(t, s, plusAboveS())
	s.Rules[0] = rule(row(2, 0, -1), row(0))
	two := built(t, s, paths([2]int{2, 1}, [2]int{2, 0}))
	for range 3 {
		becomes(t, one, row(2, 1, 0, 1, 0), 1, 1, 0)
		becomes(t, two, row(2, 1, 0, 1, 0), 1, 0)
		stays(t, one, row(2), api.ErrTermShort)
		fails(t, s, paths(), api.ErrNormRefused)
		becomes(t, two, row(2, 0, -4), 0)
		becomes(t, one, row(2, 0, -4), -4)
	}
	if !sameSystem(one.System(), sums()) || !sameSystem(two.System(), s) {
		t.Errorf("%v, %v", one.System(), two.System())
	}
}
