package interp

import (
	"slices"
	"testing"

	"lodestone/api"
)

// in is a copy of a list with items behind its length that nobody may read or change.
func in[T any](l []T, behind ...T) []T {
	return append(slices.Clone(l), behind...)[:len(l)]
}

// inRoom is a copy of an interpretation, each list of it with something behind its length.
func inRoom(l []api.Interp) []api.Interp {
	var out []api.Interp
	for _, x := range l {
		var p []api.Mono
		for _, m := range x.P {
			p = append(p, api.Mono{Coef: in(m.Coef, 3, 1), Exps: in(m.Exps, 4, 1)})
		}
		out = append(out, api.Interp{Sym: x.Sym, P: in(p, mono(5, 9))})
	}
	return in(out, api.Interp{Sym: 99})
}

func roomKept(l, was []api.Interp) bool {
	for i, x := range l {
		for j, m := range x.P {
			w := was[i].P[j]
			if !slices.Equal(m.Coef[:len(w.Coef)+2], append(slices.Clone(w.Coef), 3, 1)) || !slices.Equal(m.Exps[:len(w.Exps)+2], append(slices.Clone(w.Exps), 4, 1)) {
				return false
			}
		}
		if x.Sym != was[i].Sym || !same(x.P, was[i].P) || !sameMono(x.P[:len(x.P)+1][len(x.P)], mono(5, 9)) {
			return false
		}
	}
	return len(l) == len(was) && l[:len(l)+1][len(l)].Sym == 99
}

func copied(l []api.Interp) []api.Interp {
	var out []api.Interp
	for _, x := range l {
		out = append(out, api.Interp{Sym: x.Sym, P: copiedMonos(x.P)})
	}
	return out
}

func copiedMonos(p []api.Mono) []api.Mono {
	var out []api.Mono
	for _, m := range p {
		out = append(out, api.Mono{Coef: slices.Clone(m.Coef), Exps: slices.Clone(m.Exps)})
	}
	return out
}

func TestArgumentsStay(t *testing.T) { // R5
	r := random(11)
	for range 500 {
		l := r.interp(mixed())
		switch r.below(6) {
		case 0:
			l = append(l, l[0])
		case 1:
			l[r.below(8)].P = monos(mono(1, 1, 0))
		case 2:
			l = l[:r.below(8)]
		}
		u, v := r.term(1+r.below(20), 3), r.term(1+r.below(20), 4)
		if r.below(4) == 0 {
			v = v[:r.below(len(v))]
		}
		was := copied(l)
		sig, lr, ur, vr := in(mixed(), sym("1", 99)), inRoom(l), in(u, 0, -7), in(v, 0, -7)
		Check(sig, lr)
		Strict(sig, lr)
		Of(sig, lr, ur)
		Of(sig, lr, vr)
		Falls(sig, lr, rule(ur, vr))
		Falls(sig, lr, rule(vr, ur))
		if !roomKept(lr, was) || !slices.Equal(sig[:9], append(mixed(), sym("1", 99))) {
			t.Fatalf("an argument was changed: %v, %v", lr, sig[:9])
		}
		if !slices.Equal(ur[:len(u)+2], append(slices.Clone(u), 0, -7)) || !slices.Equal(vr[:len(v)+2], append(slices.Clone(v), 0, -7)) {
			t.Fatalf("a term was changed: %v, %v", ur, vr)
		}
	}
}

func TestRoomIsNotRead(t *testing.T) { // R5
	sig, l := in(three(), sym("1", 99)), inRoom(usual())
	checks(t, sig, l, api.OK)
	isStrict(t, sig, l, true)
	gives(t, sig, l, in(row(2, 1, -7, -3), 0, 0), mono(2), mono(1, 0, 1), mono(2, 1))
	falls(t, sig, l, rule(in(row(2, 0, -1), 0), in(row(-1), 0)), 2)
	// the room would make each of these right
	checks(t, three(), usual()[:2], api.ErrInterpSymbol)
	flat := but(usual(), 2, usual()[2].P[:1]...)
	isStrict(t, three(), flat, false)
	flat[2].P = usual()[2].P[:1]
	isStrict(t, three(), flat, false)
	refuses(t, three(), usual(), in(row(2, 0), 0, 0), api.ErrTermShort)
	refusesRule(t, three(), usual(), rule(in(row(1), 0), row(0)), api.ErrTermShort)
	refusesRule(t, three(), usual(), rule(row(0), in(row(1), 0)), api.ErrTermShort)
}

// spoil writes over all of a list's memory, its spare room too.
func spoil(p []api.Mono) {
	p = p[:cap(p)]
	for i := range p {
		coef, exps := p[i].Coef[:cap(p[i].Coef)], p[i].Exps[:cap(p[i].Exps)]
		for j := range coef {
			coef[j] = 99
		}
		for j := range exps {
			exps[j] = 77
		}
		p[i] = api.Mono{}
	}
}

// TestAnswersAreNew has terms whose polynomials are just what was handed in, or a part of it.
func TestAnswersAreNew(t *testing.T) { // R5
	l := but(usual(), 1, mono(1, 1))
	for _, u := range [][]int{row(0), row(-1), row(1, -1), row(1, 0), row(2, -1, -2), row(2, -1, -1), row(2, 1, -3, 1, -4), tower(50, -1), rake(unlike(0, 9)...)} {
		was, v := copied(l), slices.Clone(u)
		p, e := Of(three(), l, u)
		q, f := Of(three(), l, u)
		kept := copiedMonos(q)
		spoil(p)
		if e != f || !same(q, kept) || !slices.Equal(u, v) {
			t.Errorf("Of(%v): an answer shares its memory", v)
		}
		for i := range l {
			if !same(l[i].P, was[i].P) {
				t.Errorf("Of(%v): an answer shares its memory with %v", v, was[i])
			}
		}
		gives(t, three(), l, u, kept...)
	}
}

func TestListsOfOneAnswer(t *testing.T) { // R5
	for _, u := range [][]int{row(-1), row(2, 1, -1, -2), rake(unlike(0, 200)...), comb(row(-1), row(-2), row(-1), row(0))} {
		p, e := Of(three(), usual(), u)
		if e != api.OK {
			t.Fatal(e)
		}
		for i := range p {
			rest := slices.Delete(copiedMonos(p), i, i+1)
			m := p[i]
			spoil(p[i : i+1 : i+1])
			if !same(slices.Delete(slices.Clone(p), i, i+1), rest) {
				t.Fatalf("two lists of one answer share memory: %v", u)
			}
			p[i] = m
		}
	}
}

// TestOneRowTwice: the same memory may be handed in in several places.
func TestOneRowTwice(t *testing.T) { // R5
	whole := tower(60, -1)
	for at := range 60 {
		falls(t, three(), usual(), rule(whole, whole[at:]), min(2, at+1))
		falls(t, three(), usual(), rule(whole[at:], whole), max(0, 1-at))
	}
	p := monos(mono(1, 1))
	gives(t, three(), given(nil, p, p), row(2, 1, -5, -5), p...)
}

// TestNothingIsKept: what one call was given does not show in the next one.
func TestNothingIsKept(t *testing.T) { // R6
	l := usual()
	for range 3 {
		gives(t, three(), l, row(2, -1, -2), mono(1, 0, 1), mono(2, 1))
		gives(t, three(), but(l, 2, productOf(2)...), row(2, -1, -2), mono(1, 1, 1))
		gives(t, three(), l, row(2, -2, -2), mono(3, 1))
		falls(t, three(), l, rule(row(2, -1, -2), row(-2)), 1)
		falls(t, three(), l, rule(row(2, -2, -1), row(-3)), 0)
	}
	l[2].P[1].Coef[0] = 7
	gives(t, three(), l, row(2, -1, -2), mono(1, 0, 1), mono(7, 1))
	l[2].Sym = 1
	checks(t, three(), l, api.ErrInterpSymbol)
}
