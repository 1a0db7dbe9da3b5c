package match

import (
	"slices"
	"testing"

	"lodestone/api"
)

// wants holds what Match answers over three.
func wants(t *testing.T, p, u []int, want []api.Bind, is bool) {
	t.Helper()
	if s, ok := Match(three(), p, u); ok != is || !sameBinds(s, want) {
		t.Errorf("Match(%v, %v): %v, %v, want %v, %v", p, u, s, ok, want, is)
	}
}

func TestMatchExamples(t *testing.T) { // P5.1
	wants(t, row(2, -1, -2), row(2, 1, 0, 0), binds(bind(0, 1, 0), bind(1, 0)), true)
	wants(t, row(2, -1, -1), row(2, 0, 0), binds(bind(0, 0)), true)
	wants(t, row(2, -1, -1), row(2, 0, 1, 0), nil, false)
	wants(t, row(-1), row(2, 0, 0), binds(bind(0, 2, 0, 0)), true)
	wants(t, row(0), row(-1), nil, false)
	wants(t, row(1, -1), row(1, 1, -1), binds(bind(0, 1, -1)), true)
}

func TestMatchOfAVariableAlone(t *testing.T) { // P5.1
	for _, v := range []int{0, 1, 7, api.MaxVar - 2, api.MaxVar - 1} {
		for _, u := range append(smallTerms(4, 2), row(-api.MaxVar), tower(600, 0), tower(513, -1)) {
			wants(t, row(-1-v), u, binds(bind(v, u...)), true)
		}
	}
	if s, ok := Match(nil, row(-3), row(-3)); !ok || !sameBinds(s, binds(bind(2, -3))) {
		t.Errorf("without symbols: %v, %v", s, ok)
	}
}

func TestMatchWithoutVariables(t *testing.T) { // P5.1
	closed := smallTerms(6, 0)
	for _, p := range closed {
		for _, u := range closed {
			wants(t, p, u, nil, slices.Equal(p, u))
		}
		for _, u := range smallTerms(4, 2) {
			wants(t, p, u, nil, slices.Equal(p, u))
		}
	}
	wants(t, tower(600, 0), tower(600, 0), nil, true)
	wants(t, tower(600, 0), tower(601, 0), nil, false)
}

func TestMatchOfAVariableThatStandsTwice(t *testing.T) { // P5.1
	like := [][]int{{0}, {-1}, {-8}, {1, 0}, {2, -1, 1, 0}, {2, -2, -1}}
	for _, a := range like {
		for _, b := range like {
			u := slices.Concat(row(2), a, b)
			if slices.Equal(a, b) {
				wants(t, row(2, -4, -4), u, binds(bind(3, a...)), true)
			} else {
				wants(t, row(2, -4, -4), u, nil, false)
			}
		}
	}
	// thrice, at unlike depths, the unlike one first, between and last
	p := row(2, 1, -1, 2, 1, 1, -1, -1)
	wants(t, p, row(2, 1, 1, 0, 2, 1, 1, 1, 0, 1, 0), binds(bind(0, 1, 0)), true)
	wants(t, p, row(2, 1, 0, 2, 1, 1, 1, 0, 1, 0), nil, false)
	wants(t, p, row(2, 1, 1, 0, 2, 1, 1, 0, 1, 0), nil, false)
	wants(t, p, row(2, 1, 1, 0, 2, 1, 1, 1, 0, 0), nil, false)
	// rows that begin alike, and the same codes in another order
	wants(t, row(2, -1, -1), row(2, 1, 0, 1, 1, 0), nil, false)
	wants(t, row(2, -1, -1), row(2, 2, 0, -1, 2, -1, 0), nil, false)
	wants(t, row(2, -1, -1), row(2, -2, -3), nil, false)
	wants(t, row(2, -1, -1), row(2, -1, -2), nil, false)
}

// TestMatchWithSharedVariables: a variable of the term is a leaf, even if the pattern has it, too.
func TestMatchWithSharedVariables(t *testing.T) { // P5.1
	wants(t, row(-1), row(-1), binds(bind(0, -1)), true)
	wants(t, row(-1), row(1, -1), binds(bind(0, 1, -1)), true)
	wants(t, row(2, -1, -2), row(2, -2, -1), binds(bind(0, -2), bind(1, -1)), true)
	wants(t, row(2, -1, -2), row(2, -2, -2), binds(bind(0, -2), bind(1, -2)), true)
	wants(t, row(2, -1, -2), row(2, -2, 1, -1), binds(bind(0, -2), bind(1, 1, -1)), true)
	wants(t, row(2, -1, -1), row(2, 1, -1, 1, -1), binds(bind(0, 1, -1)), true)
	wants(t, row(2, -1, -1), row(2, -1, 1, -1), nil, false)
	wants(t, row(2, -1, 1, -1), row(2, 1, -1, 1, 1, -1), binds(bind(0, 1, -1)), true)
	wants(t, row(2, -1, 1, -2), row(2, -2, 1, -1), binds(bind(0, -2), bind(1, -1)), true)
}

func TestMatchWithAVariableWhereASymbolIs(t *testing.T) { // P5.1
	wants(t, row(0), row(-1), nil, false)
	wants(t, row(1, -1), row(-1), nil, false)
	wants(t, row(1, -1), row(-2), nil, false)
	wants(t, row(1, 0), row(1, -1), nil, false)
	wants(t, row(2, 0, -1), row(2, -1, 0), nil, false)
	wants(t, row(2, -1, 0), row(2, 0, -1), nil, false)
	wants(t, row(2, 1, -1, -2), row(2, -1, -2), nil, false)
}

func TestMatchWithUnlikeSymbols(t *testing.T) { // P5.1
	sig := []api.Symbol{sym("a", 0), sym("b", 0), sym("f", 2), sym("g", 2), sym("f#", 2)}
	for i := range 5 {
		for j := range 5 {
			p, u := slices.Concat(row(i), row(-1, -2)[:sig[i].Arity]), slices.Concat(row(j), row(0, 1)[:sig[j].Arity])
			want := []api.Bind(nil)
			if i == j && i > 1 {
				want = binds(bind(0, 0), bind(1, 1))
			}
			if s, ok := Match(sig, p, u); ok != (i == j) || !sameBinds(s, want) {
				t.Errorf("Match(%v, %v): %v, %v", p, u, s, ok)
			}
		}
	}
	wants(t, row(1, 1, -1), row(1, 0), nil, false)
	wants(t, row(1, 0), row(1, 1, 0), nil, false)
	wants(t, row(2, -1, 1, 0), row(2, 0, 0), nil, false)
	wants(t, row(2, 1, -1, -2), row(2, 2, 0, 0, 0), nil, false)
}

func TestMatchBindsRise(t *testing.T) { // P5.1
	wants(t, row(2, -2, -1), row(2, 1, 0, 0), binds(bind(0, 0), bind(1, 1, 0)), true)
	wants(t, row(2, -9, 2, -1, -4), row(2, 0, 2, 1, 0, -1), binds(bind(0, 1, 0), bind(3, -1), bind(8, 0)), true)
	p, u := row(8, -6, -api.MaxVar, -3, -3, -1, 1-api.MaxVar, -2, -6), row(8, -1, -2, -3, -3, -4, -5, -6, -1)
	want := binds(bind(0, -4), bind(1, -6), bind(2, -3), bind(5, -1), bind(api.MaxVar-2, -5), bind(api.MaxVar-1, -2))
	if s, ok := Match(all(), p, u); !ok || !sameBinds(s, want) {
		t.Errorf("Match(%v, %v): %v, %v", p, u, s, ok)
	}
}

// TestMatchIsAsSaid tries all binds that might do for all small patterns and terms: what a variable of the pattern becomes stands in the term.
func TestMatchIsAsSaid(t *testing.T) { // P5.1
	terms := smallTerms(5, 2)
	for _, p := range smallTerms(4, 3) {
		for _, u := range terms {
			parts := subs(three(), u)
			slices.SortFunc(parts, slices.Compare[[]int])
			parts = slices.CompactFunc(parts, slices.Equal[[]int])
			var found [][]api.Bind
			for _, s := range bindsOver(varsOf(p), parts) {
				if slices.Equal(made(s, p), u) {
					found = append(found, s)
				}
			}
			s, ok := Match(three(), p, u)
			if len(found) > 1 || ok != (len(found) == 1) || ok && !sameBinds(s, found[0]) || !ok && len(s) > 0 {
				t.Fatalf("Match(%v, %v): %v, %v, want %v", p, u, s, ok, found)
			}
		}
	}
}

// TestMatchOfGreatTerms: how many nodes a term has is not looked at, and no depth is too deep.
func TestMatchOfGreatTerms(t *testing.T) { // P5.1, R1
	wants(t, row(2, -1, -1), slices.Concat(row(2), tower(600, 0), tower(600, 0)), binds(bind(0, tower(600, 0)...)), true)
	wants(t, row(2, -1, -1), slices.Concat(row(2), tower(600, 0), tower(600, -1)), nil, false)
	wants(t, tower(1<<16, -3), tower(1<<16+5, 0), binds(bind(2, tower(6, 0)...)), true)
	wants(t, tower(1<<16, 0), tower(1<<16, -1), nil, false)
	deep := slices.Concat(slices.Repeat(row(2), 1<<16), slices.Repeat(row(-1), 1<<16+1))
	wants(t, deep, made(binds(bind(0, 1, -2)), deep), binds(bind(0, 1, -2)), true)
	unlike := slices.Clone(deep)
	unlike[len(unlike)-1] = -2
	wants(t, deep, unlike, nil, false)
}

func TestMatchOfWrongInput(t *testing.T) { // P5.1, R3
	for _, sig := range badSigs() {
		for _, u := range [][]int{{-1}, {0}, {1, 0}, {2, -1, 0}} {
			for _, p := range [][]int{{-1}, u} {
				if s, ok := Match(sig, p, u); ok || len(s) > 0 {
					t.Errorf("Match(%v; %v, %v): %v, %v", sig, p, u, s, ok)
				}
			}
		}
	}
	for _, bad := range badRows() {
		for _, u := range append(badRows(), row(0), row(-1), row(1, -1), row(2, -1, -2)) {
			wants(t, bad, u, nil, false)
			wants(t, u, bad, nil, false)
		}
	}
	// what stands ahead of the fault matches
	wants(t, row(1, -1), row(1, 0, 0), nil, false)
	wants(t, row(1, -1, 0), row(1, 0), nil, false)
	wants(t, row(2, -1, -2), row(2, 0, 3), nil, false)
	wants(t, row(2, -1, -api.MaxVar-1), row(2, 0, 0), nil, false)
	if s, ok := Match(nil, row(0), row(0)); ok || len(s) > 0 {
		t.Errorf("a symbol, without symbols: %v, %v", s, ok)
	}
}
