package interp

import (
	"math"
	"slices"
	"testing"

	"lodestone/api"
	"lodestone/poly"
)

func TestExamplesOfCheck(t *testing.T) { // P12.1
	checks(t, three(), usual(), api.OK)
	checks(t, three(), slices.Delete(usual(), 1, 2), api.ErrInterpSymbol)
	checks(t, three(), append(usual(), usual()[2]), api.ErrInterpSymbol)
	checks(t, three(), but(usual(), 1, mono(1), mono(1, 0, 1)), api.ErrInterpForm)
}

func TestOtherSignatures(t *testing.T) { // P12.1
	checks(t, nil, nil, api.OK)
	checks(t, nil, given(nil), api.ErrInterpSymbol)
	for _, sig := range [][]api.Symbol{all(), mixed(), many(128)} {
		checks(t, sig, sums(sig), api.OK)
		checks(t, sig, nil, api.ErrInterpSymbol)
		for code := range sig {
			checks(t, sig, slices.Delete(sums(sig), code, code+1), api.ErrInterpSymbol)
		}
	}
}

// TestAnyOrder: the list may give the symbols their polynomials in any order; each is held against its own symbol's arity.
func TestAnyOrder(t *testing.T) { // P12.1
	r := random(1)
	for range 20 {
		checks(t, all(), r.shuffled(sums(all())), api.OK)
		checks(t, mixed(), r.shuffled(r.interp(mixed())), api.OK)
		checks(t, all(), r.shuffled(but(sums(all()), 3, mono(1, 1, 1, 1, 1))), api.ErrInterpForm)
	}
}

func TestWrongSignature(t *testing.T) { // P12.1 to P12.4, R3
	for want, sigs := range badSigs() {
		for _, sig := range sigs {
			for _, l := range [][]api.Interp{nil, usual(), given(nil, nil), append(usual(), usual()...), but(usual(), 2, mono(1, 65)), but(usual(), 0, mono(0)), {{Sym: -1}}} {
				checks(t, sig, l, want)
			}
		}
	}
}

func TestWrongSymbol(t *testing.T) { // P12.1
	for _, code := range []int{-1, 3, 4, 128, math.MinInt, math.MaxInt, -api.MaxVar, 1 << 32} {
		for at := range 4 {
			checks(t, three(), slices.Insert(usual(), at, api.Interp{Sym: code, P: only(1)}), api.ErrInterpSymbol)
			checks(t, three(), slices.Insert(usual(), at, api.Interp{Sym: code, P: monos(mono(0))}), api.ErrInterpSymbol)
		}
		for at := range 3 {
			l := usual()
			l[at].Sym = code
			checks(t, three(), l, api.ErrInterpSymbol)
		}
	}
}

func TestTwice(t *testing.T) { // P12.1
	for code := range 3 {
		for at := range 4 {
			for _, p := range [][]api.Mono{usual()[code].P, nil, only(7)} {
				checks(t, three(), slices.Insert(usual(), at, api.Interp{Sym: code, P: p}), api.ErrInterpSymbol)
			}
		}
	}
}

func TestIllPolynomials(t *testing.T) { // P12.1
	for _, x := range illOfTwo() {
		checks(t, three(), but(usual(), 2, x.p...), x.e)
		for at := range 2 {
			l := slices.Delete(usual(), 2, 3)
			checks(t, three(), slices.Insert(l, at, api.Interp{Sym: 2, P: x.p}), x.e)
		}
	}
}

// TestVariablesOfArguments: a symbol's polynomial may have as many variables as it has arguments, and no more.
func TestVariablesOfArguments(t *testing.T) { // P12.1
	for n := range api.MaxArity + 1 {
		for variable := range api.MaxArity + 3 {
			for _, power := range []int{1, 2, api.MaxDegree, api.MaxDegree + 1} {
				want := api.OK
				switch {
				case variable >= n:
					want = api.ErrInterpForm
				case power > api.MaxDegree:
					want = api.ErrTooBig
				}
				checks(t, all(), but(sums(all()), n, raisedTo(variable, power)), want)
				checks(t, all(), but(sums(all()), n, mono(7), raisedTo(variable, power)), want)
			}
		}
	}
}

func TestBoundsOfCheck(t *testing.T) { // P12.1
	for code := range 3 {
		checks(t, three(), but(usual(), code), api.OK)
		checks(t, three(), but(usual(), code, only(limbs(64, full)...)...), api.OK)
		checks(t, three(), but(usual(), code, only(append(limbs(64, 0), 1)...)...), api.ErrInterpForm)
	}
	checks(t, three(), but(usual(), 1, mono(1, 64)), api.OK)
	checks(t, three(), but(usual(), 1, mono(1, 65)), api.ErrTooBig)
	checks(t, three(), but(usual(), 1, powers(65)...), api.OK)
	checks(t, three(), but(usual(), 1, powers(66)...), api.ErrTooBig)
	checks(t, three(), but(usual(), 2, mono(1, 64, 64)), api.OK)
	checks(t, three(), but(usual(), 2, grid(256)...), api.OK)
	checks(t, three(), but(usual(), 2, grid(257)...), api.ErrTooBig)
}

// TestFirstFault: of several faults the one that is met first counts, one by one; that a symbol has none is told behind all.
func TestFirstFault(t *testing.T) { // P12.1
	zero, s, plus := usual()[0], usual()[1], usual()[2]
	form := api.Interp{Sym: 1, P: monos(mono(1, 0, 1))}
	big := api.Interp{Sym: 2, P: monos(mono(1, 65))}
	none := api.Interp{Sym: 3, P: only(1)}
	for i, x := range []struct {
		l    []api.Interp
		want api.Errno
	}{
		{[]api.Interp{zero, form, big}, api.ErrInterpForm},
		{[]api.Interp{zero, big, form}, api.ErrTooBig},
		{[]api.Interp{form, none, big}, api.ErrInterpForm},
		{[]api.Interp{none, form, big}, api.ErrInterpSymbol},
		{[]api.Interp{big, none, form}, api.ErrTooBig},
		{[]api.Interp{zero, zero, form}, api.ErrInterpSymbol},
		{[]api.Interp{zero, form, zero}, api.ErrInterpForm},
		{[]api.Interp{big, zero, zero}, api.ErrTooBig},
		{[]api.Interp{s, form}, api.ErrInterpSymbol}, // twice, whatever the second one is
		{[]api.Interp{plus, big}, api.ErrInterpSymbol},
		{[]api.Interp{form, s}, api.ErrInterpForm},
		{[]api.Interp{form}, api.ErrInterpForm}, // ahead of those that have none
		{[]api.Interp{big}, api.ErrTooBig},
		{[]api.Interp{zero, s}, api.ErrInterpSymbol},
		{[]api.Interp{zero, s, plus, form}, api.ErrInterpSymbol},
	} {
		if e := Check(three(), x.l); e != x.want {
			t.Errorf("%d: %v, want %v", i, e, x.want)
		}
		checks(t, three(), x.l, x.want)
	}
}

// TestDrawnLists holds lists with drawn faults against the plain reading.
func TestDrawnLists(t *testing.T) { // P12.1, P12.2
	r := random(2)
	told := map[api.Errno]int{}
	for range 20000 {
		l := sums(three())
		for range r.below(4) {
			at := r.below(len(l) + 1)
			switch r.below(4) {
			case 0:
				l = slices.Insert(l, at, api.Interp{Sym: r.below(5) - 1, P: only(1)})
			case 1:
				l = slices.Delete(l, max(0, at-1), at)
			case 2:
				x := illOfTwo()[r.below(len(illOfTwo()))]
				l = slices.Insert(l, at, api.Interp{Sym: 2, P: x.p})
			case 3:
				p, _ := r.polynomial(r.below(4)).row()
				l = slices.Insert(l, at, api.Interp{Sym: r.below(3), P: p})
			}
			if r.below(2) == 0 {
				l = withoutTwice(l)
			}
		}
		l = r.shuffled(l)
		want := plainCheck(three(), l, poly.Check)
		told[want]++
		if e := Check(three(), l); e != want {
			t.Fatalf("Check(%v): %v, want %v", l, e, want)
		}
		if Strict(three(), l) != (want == api.OK && plainStrict(three(), l)) {
			t.Fatalf("Strict(%v)", l)
		}
	}
	for _, e := range []api.Errno{api.OK, api.ErrInterpSymbol, api.ErrInterpForm, api.ErrTooBig} {
		if told[e] < 500 {
			t.Errorf("too seldom: %v", told)
		}
	}
}

// withoutTwice has of each symbol the last one alone.
func withoutTwice(l []api.Interp) []api.Interp {
	var out []api.Interp
	for i, in := range l {
		if !slices.ContainsFunc(l[i+1:], func(behind api.Interp) bool { return behind.Sym == in.Sym }) {
			out = append(out, in)
		}
	}
	return out
}

func TestExamplesOfStrict(t *testing.T) { // P12.2
	isStrict(t, three(), usual(), true)
	isStrict(t, three(), but(usual(), 2, mono(2, 1)), false)
	isStrict(t, three(), but(usual(), 2, mono(1, 0, 1), mono(1, 1), mono(1, 1, 1)), true)
}

func TestStrict(t *testing.T) { // P12.2
	for _, p := range [][]api.Mono{nil, only(1), only(limbs(64, full)...)} { // without arguments there is nothing to rise with
		isStrict(t, three(), but(usual(), 0, p...), true)
		isStrict(t, three(), but(usual(), 1, p...), false)
		isStrict(t, three(), but(usual(), 2, p...), false)
	}
	isStrict(t, nil, nil, true)
	isStrict(t, three()[:1], given(nil), true)
	isStrict(t, three(), but(usual(), 1, mono(1, 2)), true)
	isStrict(t, three(), but(usual(), 1, mono(1, 64)), true)
	isStrict(t, three(), but(usual(), 2, mono(1, 0, 3), mono(1, 7)), true)
	isStrict(t, three(), but(usual(), 2, mono(1, 0, 3), mono(1, 7, 1)), false)
	isStrict(t, three(), but(usual(), 2, mono(1, 1, 1)), false)
	isStrict(t, three(), but(usual(), 2, mono(1), mono(1, 1, 1)), false)
	isStrict(t, three(), but(usual(), 2, mono(1, 1), mono(1, 1, 1)), false)
	isStrict(t, three(), but(usual(), 2, mono(1, 0, 1), mono(1, 1, 1)), false)
	isStrict(t, three(), but(usual(), 2, mono(1, 0, 1)), false)
}

// TestStrictOfEachArgument takes each argument in turn the monomial that it has alone.
func TestStrictOfEachArgument(t *testing.T) { // P12.2
	for n := range api.MaxArity + 1 {
		l := but(sums(all()), n, sumOf(n, 0)...)
		isStrict(t, all(), l, true)
		for arg := range n {
			less := slices.DeleteFunc(sumOf(n, 0), func(m api.Mono) bool { return isOfOne(m, arg) })
			isStrict(t, all(), but(l, n, less...), false)
			for _, power := range []int{1, 2, api.MaxDegree} {
				more := slices.Clone(less)
				more = append(more, raisedTo(arg, power))
				slices.SortFunc(more, func(a, b api.Mono) int { return slices.Compare(a.Exps, b.Exps) })
				isStrict(t, all(), but(l, n, more...), true)
			}
			for other := range n {
				if other == arg {
					continue
				}
				both := mono(1, raisedTo(max(arg, other), 1).Exps...)
				both.Exps[min(arg, other)] = 1
				more := append(slices.Clone(less), both)
				slices.SortFunc(more, func(a, b api.Mono) int { return slices.Compare(a.Exps, b.Exps) })
				isStrict(t, all(), but(l, n, more...), false)
			}
		}
	}
}

func TestDrawnStrict(t *testing.T) { // P12.2
	r := random(3)
	yes := 0
	for range 5000 {
		for _, l := range [][]api.Interp{r.interp(three()), r.strict(mixed())} {
			sig := three()
			if len(l) > 3 {
				sig = mixed()
			}
			want := plainStrict(sig, l)
			isStrict(t, sig, l, want)
			if want && len(l) == 3 {
				yes++
			}
		}
		isStrict(t, mixed(), r.strict(mixed()), true)
	}
	if yes < 50 || yes > 4000 {
		t.Errorf("%d are strict", yes)
	}
}
