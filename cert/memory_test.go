package cert

import (
	"reflect"
	"slices"
	"testing"

	"lodestone/api"
)

// in is a copy of a list with items behind its length that nobody may read or change.
func in[T any](l []T, behind ...T) []T {
	return append(slices.Clone(l), behind...)[:len(l)]
}

// systemInRoom is a copy of a system each list of which has something behind its length.
func systemInRoom(s api.System) api.System {
	var rules []api.Rule
	for _, a := range s.Rules {
		rules = append(rules, rule(in(a.L, 0, -7), in(a.R, 0, -7)))
	}
	return api.System{Sig: in(s.Sig, sym("1", 99)), Rules: in(rules, rule(row(-1), row(-2)))}
}

// nodesInRoom is a copy of a certificate each list of which has something behind its length.
func nodesInRoom(l []api.Node) []api.Node {
	var out []api.Node
	for _, node := range l {
		var ints []api.Interp
		for _, x := range node.Ints {
			var p []api.Mono
			for _, m := range x.P {
				p = append(p, api.Mono{Coef: in(m.Coef, 5, 0), Exps: in(m.Exps, 5, 0)})
			}
			ints = append(ints, api.Interp{Sym: x.Sym, P: in(p, mono(0, -1))})
		}
		node.Prec, node.Ints = in(node.Prec, [2]int{1, 1}), in(ints, api.Interp{Sym: -1})
		out = append(out, node)
	}
	return in(out, api.Node{Kind: 9, Kids: -1})
}

// whole is a list with what stands behind its length.
func whole[T any](l []T) []T { return l[:cap(l)] }

// sameSystem and sameNodes hold two copies in rooms against each other, with what stands behind each list's length.
func sameSystem(a, b api.System) bool {
	if !slices.Equal(whole(a.Sig), whole(b.Sig)) || len(a.Rules) != len(b.Rules) {
		return false
	}
	return slices.EqualFunc(whole(a.Rules), whole(b.Rules), func(x, y api.Rule) bool {
		return slices.Equal(whole(x.L), whole(y.L)) && slices.Equal(whole(x.R), whole(y.R))
	})
}

func sameNodes(a, b []api.Node) bool {
	return len(a) == len(b) && slices.EqualFunc(whole(a), whole(b), func(x, y api.Node) bool {
		return x.Kind == y.Kind && x.Kids == y.Kids && slices.Equal(whole(x.Prec), whole(y.Prec)) && slices.EqualFunc(whole(x.Ints), whole(y.Ints), func(p, q api.Interp) bool {
			return p.Sym == q.Sym && slices.EqualFunc(whole(p.P), whole(q.P), func(m, n api.Mono) bool {
				return slices.Equal(whole(m.Coef), whole(n.Coef)) && slices.Equal(whole(m.Exps), whole(n.Exps))
			})
		})
	})
}

// TestArgumentsStay: neither the lists that are handed in nor what stands behind them is changed, or counts.
func TestArgumentsStay(t *testing.T) { // R5
	r := random(11)
	hold := func(s api.System, l []api.Node) {
		want := Check(s, l)
		sr, lr := systemInRoom(s), nodesInRoom(l)
		if v := Check(sr, lr); v != want {
			t.Fatalf("Check(%v, %v): %d, want %d as without the room", s, l, v, want)
		}
		if !sameSystem(sr, systemInRoom(s)) || !sameNodes(lr, nodesInRoom(l)) {
			t.Fatalf("an argument was changed: %v, %v", sr, lr)
		}
	}
	for range 400 {
		s := r.system()
		l := r.any(s)
		hold(s, l)
		hold(s, r.changed(s, l))
		s.Rules[r.below(len(s.Rules))].R = row(-3)
		hold(s, l)
	}
	hold(nest(6), chain(6))
	hold(sums(), nodes(pairsNode(1), byPoly(0, weak())))
	for _, s := range wrongSystems() {
		hold(s, nodes(lpoNode([2]int{2, 1})))
	}
	hold(over(rule(row(1, 1, 1, 1, -1), row(-1))), nodes(polyNode(steep(three()))))
}

// TestRoomIsNotRead: what is behind the lists would make a certificate of each of these.
func TestRoomIsNotRead(t *testing.T) { // R5
	l := nodes(pairsNode(1), byPoly(0, weak()))
	accepts(t, sums(), l...)
	if v := Check(sums(), l[:1]); v != api.Refuse {
		t.Errorf("%d", v)
	}
	l[1].Ints = l[1].Ints[:5]
	refuses(t, sums(), l...)
	over21 := above([2]int{2, 1})
	refuses(t, sums(), lpoNode(over21[:0]...))
	s := sums()
	s.Rules[1].R = s.Rules[1].R[:3]
	refuses(t, s, lpoNode(over21...))
	many := make([]api.Node, api.MaxCertNodes+1)
	refuses(t, sums(), many[:api.MaxCertNodes]...)
	tooBig(t, sums(), many...)
}

// TestOneListSeveralTimes: the same memory may be handed in in several places.
func TestOneListSeveralTimes(t *testing.T) { // R5
	shared := row(1, 1, 1, -1)
	s := over(rule(shared, shared[1:]), rule(shared[1:], shared[2:]))
	accepts(t, s, lpoNode())
	ints := strict()
	accepts(t, s, polyNode(ints))
	p := first()
	for i := range ints {
		ints[i].P = p
	}
	ints[0].P = nil
	refuses(t, s, polyNode(ints))
	kid := byPoly(0, given(nil, next(), nil, nil, p, p))
	accepts(t, s, pairsNode(1), byPoly(0, given(nil, next(), nil, nil, p, p)))
	two := api.System{Sig: three(), Rules: s.Rules[:1]}
	accepts(t, two, pairsNode(1), kid)
	if !slices.Equal(shared, row(1, 1, 1, -1)) || !reflect.DeepEqual(p, first()) {
		t.Errorf("%v, %v", shared, p)
	}
}

// TestNothingIsKept: what is written into the arguments later, and what was asked before, counts for no other answer.
func TestNothingIsKept(t *testing.T) { // R6
	s, l := sums(), nodes(pairsNode(1), byPoly(0, weak()))
	for range 3 {
		accepts(t, s, l...)
		l[1].Ints[5].P[0].Exps = row(0, 1)
		refuses(t, s, l...)
		l[1].Ints[5].P[0].Exps = row(1)
		accepts(t, s, l...)
		s.Rules[1].L[1] = 0
		refuses(t, s, l...)
		s.Rules[1].L[1] = 1
		tooBig(t, s, make([]api.Node, 65)...)
		refuses(t, over(), l...)
		accepts(t, over(), pairsNode(0))
	}
}
