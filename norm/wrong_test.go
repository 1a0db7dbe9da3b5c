package norm

import (
	"math"
	"testing"

	"lodestone/api"
	"lodestone/cert"
	"lodestone/term"
)

// badRows are no terms over three, with what is wrong with them.
func badRows() map[api.Errno][][]int {
	return map[api.Errno][][]int{
		api.ErrTermShort: {nil, {}, {1}, {2, 0}, {2, 0, 2, 0}, {2, 2, 0, 0}, tower(600, 1), tower(1<<16, 1)},
		api.ErrTermCode:  {{3}, {1, 3}, {2, 2, 0, 0, 4}, {1, -api.MaxVar - 1}, {math.MinInt}, {math.MaxInt}, tower(600, 3)},
		api.ErrTermMore:  {{0, 0}, {-1, -1}, {2, 0, 0, 0}, {1, 0, 99}, append(tower(600, 0), 3)},
	}
}

// TestWrongTerms: a row that is no term is told of ahead of how big it is; one that begins with a term, or has a redex in it, is no term for that.
func TestWrongTerms(t *testing.T) { // P16.2, R2
	for _, c := range smallSystems() {
		n := built(t, c.s, c.l)
		for e, rows := range badRows() {
			for _, u := range rows {
				stays(t, n, u, e)
			}
		}
	}
}

// TestByTheSystemsSignature: what is a term by one system's signature is none by that of another one.
func TestByTheSystemsSignature(t *testing.T) { // P16.2, R6
	d := doubles()
	one, two := built(t, sums(), plusAboveS()), built(t, d.s, d.l)
	bare := built(t, api.System{Sig: []api.Symbol{sym("zero", 0), sym("s", 0)}}, paths())
	for range 2 {
		stays(t, one, row(3, 0), api.ErrTermCode)
		becomes(t, two, row(3, 0), 3, 0)
		stays(t, bare, row(1, 0), api.ErrTermMore)
		becomes(t, bare, row(1), 1)
		stays(t, one, row(1), api.ErrTermShort)
		becomes(t, one, row(2, 0, 0), 0)
		becomes(t, two, row(2, 0, 0), 2, 0, 0)
		stays(t, bare, row(2, 0, 0), api.ErrTermCode)
	}
}

// TestAllArguments holds that no call panics at any arguments, and that beside an error nothing is told.
func TestAllArguments(t *testing.T) { // R1, R2
	rows := [][]int{nil, {}, {0}, {-1}, {1, 1}, {1, -1}, {2, 0, -1}, {math.MaxInt}, {math.MinInt}, {8, 8, 8}, tower(512, -1), tower(600, -1)}
	sigs := [][]api.Symbol{nil, three(), many(64), many(65), many(129), make([]api.Symbol, 3), {sym("f", -5)}, {sym("f", math.MaxInt)}, {sym("\xff", 0)}}
	trees := [][]api.Node{
		nil, paths(), paths([2]int{2, 1}, [2]int{1, 0}), paths([2]int{math.MinInt, math.MaxInt}), worth(), worth(strict()...), pairs(0), pairs(1, byPaths()), pairs(math.MaxInt), pairs(math.MinInt),
		{{Kind: math.MinInt}}, {{Kind: api.CertPoly, Ints: []api.Interp{{Sym: math.MinInt, P: []api.Mono{{Coef: []uint32{0}, Exps: row(-1)}}}}}}, make([]api.Node, 65),
	}
	norms := 0
	for _, sig := range sigs {
		for _, l := range rows {
			for _, r := range rows {
				for _, tree := range trees {
					s := api.System{Sig: sig, Rules: []api.Rule{rule(l, r)}}
					n, e := New(s, tree)
					// without an accepted certificate a path need not end
					if (n == nil) != (e != api.OK) || n != nil && cert.Check(s, tree) != api.Accept {
						t.Fatalf("New(%v, %v -> %v, %v): %v, %v", sig, l, r, tree, n, e)
					}
					if n != nil {
						norms++
						asksAll(t, n, rows)
					}
				}
			}
		}
	}
	if norms < 20 {
		t.Errorf("only %d", norms)
	}
}

func asksAll(t *testing.T, n *Norm, rows [][]int) {
	t.Helper()
	s := n.System()
	for _, u := range rows {
		want := term.Check(s.Sig, u)
		if want == api.OK && len(u) > api.MaxNodes {
			want = api.ErrTooBig
		}
		switch got, e := n.Normal(u); {
		case want != api.OK:
			stays(t, n, u, want)
		case e == api.OK && len(got) > 0 && len(got) <= api.MaxNodes:
		case e != api.ErrTooBig || len(got) > 0:
			t.Fatalf("%v: Normal(%v): %v, %v", s, u, got, e)
		}
	}
}
