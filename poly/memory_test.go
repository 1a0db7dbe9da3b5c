package poly

import (
	"slices"
	"testing"

	"lodestone/api"
)

// in is a copy of a list with items behind its length that nobody may read or change.
func in[T any](l []T, behind ...T) []T {
	return append(slices.Clone(l), behind...)[:len(l)]
}

// inRoom is a copy of a polynomial, each list of it with something behind its length.
func inRoom(p []api.Mono) []api.Mono {
	var out []api.Mono
	for _, m := range p {
		out = append(out, api.Mono{Coef: in(m.Coef, 3, 1), Exps: in(m.Exps, 4, 1)})
	}
	return in(out, mono(5, 9))
}

func roomKept(p, was []api.Mono) bool {
	for i, m := range p {
		if !slices.Equal(m.Coef[:len(was[i].Coef)+2], append(slices.Clone(was[i].Coef), 3, 1)) || !slices.Equal(m.Exps[:len(was[i].Exps)+2], append(slices.Clone(was[i].Exps), 4, 1)) {
			return false
		}
	}
	return same(p, was) && sameMono(p[:len(p)+1][len(p)], mono(5, 9))
}

func TestArgumentsStay(t *testing.T) { // R5
	all := append(plain(), poly(mono(1, 64)), grid(256), only(limbs(64, full)), poly(mono(1, 1, 0)), poly(mono(1), mono(0)))
	values := [][]uint32{{2}, nil, {full, full}}
	for _, a := range all {
		for _, b := range all {
			p, q := inRoom(a), inRoom(b)
			args := in([][]api.Mono{q, p, q}, p)
			at := in([][]uint32{in(values[0], 7), in(values[1], 7), in(values[2], 7)}, []uint32{8})
			Check(p, 3)
			Add(p, q)
			Mul(p, q)
			Compose(p, args)
			Value(p, at)
			AtLeast(p, q)
			Greater(p, q)
			if !roomKept(p, a) || !roomKept(q, b) || len(args[:4][3]) != len(p) || !slices.Equal(at[:4][3], []uint32{8}) {
				t.Fatalf("an argument was changed: %v, %v", p, q)
			}
			for i, v := range at {
				if !slices.Equal(v, values[i]) || v[:len(v)+1][len(v)] != 7 {
					t.Fatalf("a value was changed: %v", at)
				}
			}
		}
	}
}

func TestRoomIsNotRead(t *testing.T) { // R5
	for _, p := range plain() {
		for _, q := range plain() {
			a, e := Mul(p, q)
			b, f := Mul(inRoom(p), inRoom(q))
			if e != f || !same(a, b) || AtLeast(p, q) != AtLeast(inRoom(p), inRoom(q)) {
				t.Errorf("what stands behind a length was read: %v, %v", p, q)
			}
		}
	}
}

// spoil writes over all of a list's memory, its spare room too.
func spoil(p []api.Mono) {
	p = p[:cap(p)]
	for i := range p {
		coef, exps := p[i].Coef[:cap(p[i].Coef)], p[i].Exps[:cap(p[i].Exps)]
		for j := range coef {
			coef[j] = 99
		}
		for j := range exps {
			exps[j] = 77
		}
		p[i] = api.Mono{}
	}
}

func copied(p []api.Mono) []api.Mono {
	var out []api.Mono
	for _, m := range p {
		out = append(out, api.Mono{Coef: slices.Clone(m.Coef), Exps: slices.Clone(m.Exps)})
	}
	return out
}

func TestAnswersAreNew(t *testing.T) { // R5
	x, one := poly(mono(1, 1)), poly(mono(1))
	for _, p := range samples() {
		was := copied(p)
		for i, do := range []func() ([]api.Mono, api.Errno){
			func() ([]api.Mono, api.Errno) { return Add(p, nil) },
			func() ([]api.Mono, api.Errno) { return Add(nil, p) },
			func() ([]api.Mono, api.Errno) { return Mul(p, one) },
			func() ([]api.Mono, api.Errno) { return Mul(one, p) },
			func() ([]api.Mono, api.Errno) { return Compose(x, [][]api.Mono{p}) },
			func() ([]api.Mono, api.Errno) { return Compose(p, [][]api.Mono{x, x, x}) },
		} {
			a, e := do()
			b, f := do()
			kept := copied(b)
			spoil(a)
			if e != f || !same(b, kept) || !same(p, was) {
				t.Errorf("%d: an answer shares its memory: %v", i, was)
			}
		}
	}
}

func TestListsOfOneAnswer(t *testing.T) { // R5
	for _, q := range samples() {
		p, e := Add(q, poly(mono(1)))
		if e != api.OK {
			continue
		}
		for i := range p {
			rest := slices.Delete(copied(p), i, i+1)
			m := p[i]
			spoil(p[i : i+1 : i+1])
			if !same(slices.Delete(slices.Clone(p), i, i+1), rest) {
				t.Fatalf("two lists of one answer share memory: %v", q)
			}
			p[i] = m
		}
	}
}

func TestValueIsNew(t *testing.T) { // R5
	a := []uint32{7, 8, 9}
	for i, x := range []struct {
		p  []api.Mono
		at [][]uint32
	}{
		{only(a), nil},
		{poly(mono(1, 1)), [][]uint32{a}},
	} {
		v, e := Value(x.p, x.at)
		for j := range v[:cap(v)] {
			v[:cap(v)][j] = 0
		}
		if e != api.OK || !slices.Equal(a, []uint32{7, 8, 9}) {
			t.Errorf("%d: a value shares its memory: %v, %v", i, a, e)
		}
	}
}
