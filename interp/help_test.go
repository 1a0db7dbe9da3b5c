package interp

import (
	"slices"
	"strconv"
	"testing"

	"lodestone/api"
)

const full = 1<<32 - 1

func sym(name string, arity int) api.Symbol { return api.Symbol{Name: name, Arity: arity} }

func row(codes ...int) []int { return codes }

func rule(l, r []int) api.Rule { return api.Rule{L: l, R: r} }

// mono is a monomial with a small coefficient.
func mono(c uint32, exps ...int) api.Mono { return api.Mono{Coef: []uint32{c}, Exps: exps} }

func monos(l ...api.Mono) []api.Mono { return l }

// only is a natural as a polynomial.
func only(limbs ...uint32) []api.Mono { return monos(api.Mono{Coef: limbs}) }

// limbs is n limbs that are all alike.
func limbs(n int, limb uint32) []uint32 { return slices.Repeat([]uint32{limb}, n) }

// raisedTo is the variable with that number, to a power.
func raisedTo(variable, n int) api.Mono { return mono(1, append(make([]int, variable), n)...) }

// sumOf is the sum of the variables 0 to n - 1, and of a number.
func sumOf(n int, constant uint32) []api.Mono {
	var p []api.Mono
	if constant > 0 {
		p = append(p, mono(constant))
	}
	for i := n - 1; i >= 0; i-- {
		p = append(p, raisedTo(i, 1))
	}
	return p
}

// productOf is the product of the variables 0 to n - 1.
func productOf(n int) []api.Mono { return monos(mono(1, slices.Repeat([]int{1}, n)...)) }

// powers is 1 + x + x^2 .., of n monomials.
func powers(n int) []api.Mono {
	p := monos(mono(1))
	for i := 1; i < n; i++ {
		p = append(p, mono(1, i))
	}
	return p
}

// grid has n monomials of two variables.
func grid(n int) []api.Mono {
	p := monos(mono(1))
	for i := 1; i < n; i++ {
		exps := []int{i / 60, i % 60}
		if exps[1] == 0 {
			exps = exps[:1]
		}
		p = append(p, mono(uint32(i), exps...))
	}
	return p
}

func sameMono(a, b api.Mono) bool {
	return slices.Equal(a.Coef, b.Coef) && slices.Equal(a.Exps, b.Exps)
}

func same(p, q []api.Mono) bool { return slices.EqualFunc(p, q, sameMono) }

// three is the document's signature.
func three() []api.Symbol { return []api.Symbol{sym("zero", 0), sym("s", 1), sym("plus", 2)} }

// all has a symbol of each arity: its code is its arity.
func all() []api.Symbol {
	var sig []api.Symbol
	for n := range api.MaxArity + 1 {
		sig = append(sig, sym("f"+strconv.Itoa(n), n))
	}
	return sig
}

// mixed has some symbols of each of the lower arities.
func mixed() []api.Symbol {
	return []api.Symbol{sym("a", 0), sym("b", 0), sym("c", 0), sym("f", 1), sym("g", 1), sym("h", 2), sym("k", 2), sym("m", 3)}
}

func many(n int) []api.Symbol {
	var sig []api.Symbol
	for i := range n {
		sig = append(sig, sym("f"+strconv.Itoa(i), i%3))
	}
	return sig
}

// given gives the symbols 0, 1, .. these polynomials.
func given(polynomials ...[]api.Mono) []api.Interp {
	var l []api.Interp
	for code, p := range polynomials {
		l = append(l, api.Interp{Sym: code, P: p})
	}
	return l
}

// usual is the document's interpretation of three: zero 1, s x0 + 1, plus 2 x0 + x1.
func usual() []api.Interp { return given(only(1), sumOf(1, 1), monos(mono(1, 0, 1), mono(2, 1))) }

// but is an interpretation in which one symbol has another polynomial.
func but(l []api.Interp, code int, p ...api.Mono) []api.Interp {
	l = slices.Clone(l)
	l[code] = api.Interp{Sym: code, P: p}
	return l
}

// sums gives each symbol the sum of its arguments, and 1.
func sums(sig []api.Symbol) []api.Interp {
	var l [][]api.Mono
	for _, s := range sig {
		l = append(l, sumOf(s.Arity, 1))
	}
	return given(l...)
}

// tower is s of s .. of end, with n nodes in all; s has the code 1.
func tower(n, end int) []int { return append(slices.Repeat([]int{1}, n-1), end) }

// rake is plus of the first of some terms, and of plus of the second and so on, with the last one innermost; plus has the code 2.
func rake(terms ...[]int) []int {
	last := len(terms) - 1
	var t []int
	for _, u := range terms[:last] {
		t = append(append(t, 2), u...)
	}
	return append(t, terms[last]...)
}

// comb is rake the other way round: the first of some terms is innermost on the left.
func comb(terms ...[]int) []int {
	return slices.Concat(slices.Repeat(row(2), len(terms)-1), slices.Concat(terms...))
}

// unlike are n variables, from a number on.
func unlike(from, n int) [][]int {
	var l [][]int
	for i := range n {
		l = append(l, row(-1-from-i))
	}
	return l
}

// badSigs are signatures that may not be, with what is wrong with them.
func badSigs() map[api.Errno][][]api.Symbol {
	return map[api.Errno][][]api.Symbol{
		api.ErrSigName:  {{sym("zero", 0), sym("1", 1), sym("plus", 2)}, append(three(), sym("f##", 1)), append(three(), sym("", 0))},
		api.ErrSigArity: {append(three(), sym("f", 9)), append(three(), sym("f", -1)), {sym("zero", 0), sym("s", 1<<62), sym("plus", 2)}},
		api.ErrSigTwice: {{sym("zero", 0), sym("s", 1), sym("s", 2)}, append(three(), sym("zero", 0))},
		api.ErrSigMany:  {append(three(), many(2*api.MaxSymbols-2)...), make([]api.Symbol, 2*api.MaxSymbols+1)},
	}
}

// badRows are no terms over three, with what is wrong with them.
func badRows() map[api.Errno][][]int {
	return map[api.Errno][][]int{
		api.ErrTermShort: {nil, {}, {1}, {2, 0}, {2, 0, 2, 0}, {2, 2, 0, 0}, tower(600, 1)},
		api.ErrTermCode:  {{3}, {1, 3}, {2, 2, 0, 0, 4}, {1, -api.MaxVar - 1}, {-1 << 63}, {1<<63 - 1}, tower(600, 3)},
		api.ErrTermMore:  {{0, 0}, {-1, -1}, {2, 0, 0, 0}, {1, 0, 99}, append(tower(600, 0), 3)},
	}
}

// ill is what Check refuses as the polynomial of plus, with the error that it tells.
type ill struct {
	p []api.Mono
	e api.Errno
}

func illOfTwo() []ill {
	form, big := api.ErrInterpForm, api.ErrTooBig
	steep := mono(1, 65)
	return []ill{
		{monos(mono(0)), form},
		{monos(api.Mono{}), form},
		{monos(api.Mono{Exps: []int{1}}), form},
		{only(1, 0), form},
		{only(limbs(65, 1)...), form},
		{monos(mono(1, 0)), form},
		{monos(mono(1, 1, 0)), form},
		{monos(mono(1, -1)), form},
		{monos(mono(1, -1, 1)), form},
		{monos(mono(1), mono(2)), form},
		{monos(mono(2, 1, 1), mono(3)), form},
		{monos(mono(1, 1), mono(1, 0, 1)), form},
		{monos(mono(1, 1, 1), mono(1, 1)), form},
		{monos(mono(1, 0, 0, 1)), form},
		{monos(mono(1), mono(1, 0, 0, 1), mono(1, 1)), form},
		{monos(mono(1, 0, 0, 65)), form},
		{monos(raisedTo(600, 1)), form},
		{monos(steep, mono(1, 2)), form},
		{monos(steep, mono(0, 66)), form},
		{append(grid(257), mono(1)), form},
		{monos(steep), big},
		{monos(mono(1, 0, 65), mono(1, 1)), big},
		{monos(mono(1, 1<<62)), big},
		{monos(mono(1, 256)), big},
		{monos(mono(1), mono(1, 64, 65)), big},
		{grid(257), big},
		{grid(600), big},
	}
}

// checks holds what Check answers, and that Strict and what is asked of terms answer to what it refuses as they must.
func checks(t *testing.T, sig []api.Symbol, l []api.Interp, want api.Errno) {
	t.Helper()
	if e := Check(sig, l); e != want {
		t.Errorf("Check(%v): %v, want %v", l, e, want)
	}
	if want == api.OK {
		return
	}
	if Strict(sig, l) {
		t.Errorf("Strict(%v): true", l)
	}
	for _, u := range [][]int{row(-1), row(0), row(1, -1), nil, row(2, 0), row(1 << 62), row(-1, -1)} {
		refuses(t, sig, l, u, want)
		refusesRule(t, sig, l, rule(u, u), want)
		refusesRule(t, sig, l, rule(row(-1), u), want)
	}
}

func isStrict(t *testing.T, sig []api.Symbol, l []api.Interp, want bool) {
	t.Helper()
	if Strict(sig, l) != want {
		t.Errorf("Strict(%v): %v", l, !want)
	}
}

// gives holds that a term has that polynomial.
func gives(t *testing.T, sig []api.Symbol, l []api.Interp, u []int, want ...api.Mono) {
	t.Helper()
	if p, e := Of(sig, l, u); e != api.OK || !same(p, want) {
		t.Errorf("Of(%v): %v, %v; want %v", u, p, e, want)
	}
}

func refuses(t *testing.T, sig []api.Symbol, l []api.Interp, u []int, want api.Errno) {
	t.Helper()
	if p, e := Of(sig, l, u); e != want || len(p) > 0 {
		t.Errorf("Of(%v): %v, %v; want %v", u, p, e, want)
	}
}

// falls holds what Falls answers to a rule.
func falls(t *testing.T, sig []api.Symbol, l []api.Interp, r api.Rule, want int) {
	t.Helper()
	if n, e := Falls(sig, l, r); e != api.OK || n != want {
		t.Errorf("Falls(%v): %d, %v; want %d", r, n, e, want)
	}
}

func refusesRule(t *testing.T, sig []api.Symbol, l []api.Interp, r api.Rule, want api.Errno) {
	t.Helper()
	if n, e := Falls(sig, l, r); e != want || n != 0 {
		t.Errorf("Falls(%v): %d, %v; want %v", r, n, e, want)
	}
}
