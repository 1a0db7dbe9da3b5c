package poly

import (
	"math/big"
	"slices"
	"strconv"
	"strings"
	"testing"

	"lodestone/api"
)

const full = 1<<32 - 1

// mono is a monomial with a small coefficient.
func mono(c uint32, exps ...int) api.Mono {
	return api.Mono{Coef: []uint32{c}, Exps: exps}
}

func poly(monos ...api.Mono) []api.Mono { return monos }

// only is the natural c as a polynomial.
func only(c []uint32) []api.Mono { return poly(api.Mono{Coef: c}) }

// limbs is n limbs that are all alike.
func limbs(n int, limb uint32) []uint32 { return slices.Repeat([]uint32{limb}, n) }

// power2 is 2^(32 n).
func power2(n int) []uint32 { return append(limbs(n, 0), 1) }

// wide is the exponent n of one variable, with 0 for all those ahead of it.
func wide(variable, n int) []int { return append(make([]int, variable), n) }

// powers is 1 + v + v^2 .., of n monomials, of one variable.
func powers(n, variable int) []api.Mono {
	p := poly(mono(1))
	for i := 1; i < n; i++ {
		p = append(p, api.Mono{Coef: []uint32{1}, Exps: wide(variable, i)})
	}
	return p
}

// grid has n monomials of two variables.
func grid(n int) []api.Mono {
	p := poly(mono(1))
	for i := 1; i < n; i++ {
		exps := []int{i / 60, i % 60}
		if exps[1] == 0 {
			exps = exps[:1]
		}
		p = append(p, api.Mono{Coef: []uint32{uint32(i)}, Exps: exps})
	}
	return p
}

func sameMono(a, b api.Mono) bool {
	return slices.Equal(a.Coef, b.Coef) && slices.Equal(a.Exps, b.Exps)
}

func same(p, q []api.Mono) bool { return slices.EqualFunc(p, q, sameMono) }

func bigOf(a []uint32) *big.Int {
	n := new(big.Int)
	for _, limb := range slices.Backward(a) {
		n.Lsh(n, 32).Or(n, new(big.Int).SetUint64(uint64(limb)))
	}
	return n
}

func limbsOf(n *big.Int) []uint32 {
	var a []uint32
	for rest := new(big.Int).Set(n); rest.Sign() > 0; rest.Rsh(rest, 32) {
		a = append(a, uint32(rest.Uint64()))
	}
	return a
}

// free is a polynomial that knows no bounds: its coefficients by its exponents as text.
type free map[string]*big.Int

func freeOf(p []api.Mono) free {
	f := free{}
	for _, m := range p {
		f.put(m.Exps, bigOf(m.Coef))
	}
	return f
}

func (f free) put(exps []int, n *big.Int) {
	for len(exps) > 0 && exps[len(exps)-1] == 0 {
		exps = exps[:len(exps)-1]
	}
	var words []string
	for _, n := range exps {
		words = append(words, strconv.Itoa(n))
	}
	key := strings.Join(words, " ")
	if f[key] == nil {
		f[key] = new(big.Int)
	}
	f[key].Add(f[key], n)
}

func (f free) each(do func(exps []int, n *big.Int)) {
	for key, n := range f {
		var exps []int
		for _, word := range strings.Fields(key) {
			n, _ := strconv.Atoi(word)
			exps = append(exps, n)
		}
		do(exps, n)
	}
}

func (f free) plus(g free) free {
	out := free{}
	f.each(out.put)
	g.each(out.put)
	return out
}

func (f free) times(g free) free {
	out := free{}
	f.each(func(a []int, n *big.Int) {
		g.each(func(b []int, m *big.Int) {
			exps := make([]int, max(len(a), len(b)))
			for i, n := range a {
				exps[i] += n
			}
			for i, n := range b {
				exps[i] += n
			}
			out.put(exps, new(big.Int).Mul(n, m))
		})
	})
	return out
}

// of lays polynomials into f, one factor after the other.
func (f free) of(args []free) free {
	out := free{}
	f.each(func(exps []int, n *big.Int) {
		part := free{"": n}
		for i, n := range exps {
			for range n {
				part = part.times(args[i])
			}
		}
		out = out.plus(part)
	})
	return out
}

// at is what f is worth.
func (f free) at(values []*big.Int) *big.Int {
	sum := new(big.Int)
	f.each(func(exps []int, n *big.Int) {
		part := new(big.Int).Set(n)
		for i, n := range exps {
			for range n {
				part.Mul(part, values[i])
			}
		}
		sum.Add(sum, part)
	})
	return sum
}

// row is f as monomials in their order, and whether it is in bounds.
func (f free) row() ([]api.Mono, bool) {
	var p []api.Mono
	ok := true
	f.each(func(exps []int, n *big.Int) {
		m := api.Mono{Coef: limbsOf(n), Exps: exps}
		ok = ok && len(m.Coef) <= 64 && len(exps) <= 512 && (len(exps) == 0 || slices.Max(exps) <= 64)
		p = append(p, m)
	})
	slices.SortFunc(p, func(a, b api.Mono) int { return byExponents(a.Exps, b.Exps) })
	return p, ok && len(p) <= 256
}

// byExponents says the order as the document does: the first exponent that is not alike; one that is not there is 0.
func byExponents(a, b []int) int {
	for i := range max(len(a), len(b)) {
		x, y := 0, 0
		if i < len(a) {
			x = a[i]
		}
		if i < len(b) {
			y = b[i]
		}
		if x != y {
			return x - y
		}
	}
	return 0
}

// holdSame holds an answer against what has no bounds: too big just if that is not in bounds.
func holdSame(t *testing.T, what string, p []api.Mono, e api.Errno, want free) {
	t.Helper()
	row, ok := want.row()
	if !ok {
		if e != api.ErrTooBig || len(p) > 0 {
			t.Errorf("%s: %v, %v; want ErrTooBig", what, p, e)
		}
		return
	}
	if e != api.OK || !same(p, row) {
		t.Errorf("%s: %v, %v; want %v", what, p, e, row)
	}
}

func holdNumber(t *testing.T, what string, a []uint32, e api.Errno, want *big.Int) {
	t.Helper()
	row := limbsOf(want)
	if len(row) > api.MaxLimbs {
		if e != api.ErrTooBig || len(a) > 0 {
			t.Errorf("%s: %x, %v; want ErrTooBig", what, a, e)
		}
		return
	}
	if e != api.OK || !slices.Equal(a, row) {
		t.Errorf("%s: %x, %v; want %x", what, a, e, row)
	}
}

// plain are polynomials of the variables 0 to 2.
func plain() [][]api.Mono {
	l := [][]api.Mono{
		nil,
		poly(mono(1)),
		poly(mono(5)),
		poly(mono(full)),
		poly(mono(1, 1)),
		poly(mono(1, 0, 1)),
		poly(mono(1, 0, 0, 1)),
		poly(mono(1), mono(1, 1)),
		poly(mono(1), mono(1, 0, 1)),
		poly(mono(3), mono(2, 1, 1)),
		poly(mono(7, 0, 2), mono(1, 1), mono(full, 1, 0, 3), mono(2, 2)),
		poly(mono(4), mono(9, 0, 0, 2), mono(1, 0, 1), mono(1, 0, 1, 1), mono(6, 1, 2, 3)),
		poly(api.Mono{Coef: []uint32{full, full, 3}}, api.Mono{Coef: []uint32{0, 0, 1}, Exps: []int{1}}),
	}
	seed := uint64(2)
	for range 8 {
		f := free{}
		for range 5 {
			seed = seed*6364136223846793005 + 1442695040888963407
			bits := int(seed >> 33)
			f.put([]int{bits & 3, bits >> 2 & 3, bits >> 4 & 1}, big.NewInt(int64(bits>>8&7+1)))
		}
		row, _ := f.row()
		l = append(l, row)
	}
	return l
}

// steep are polynomials at the edges: of degree, of coefficients, of how many monomials there are, and of how many variables.
func steep() [][]api.Mono {
	return [][]api.Mono{
		poly(mono(1, 64)),
		poly(mono(1, 32), mono(1, 33)),
		poly(mono(1, 0, 32), mono(2, 31)),
		only(limbs(64, full)),
		only(power2(63)),
		poly(api.Mono{Coef: power2(32)}, api.Mono{Coef: power2(31), Exps: []int{1}}),
		poly(mono(1), api.Mono{Coef: limbs(64, full), Exps: []int{1}}),
		powers(16, 0), powers(16, 1), powers(17, 0), powers(17, 2), powers(65, 0),
		grid(255), grid(256),
		poly(api.Mono{Coef: []uint32{1}, Exps: wide(511, 1)}),
		poly(mono(2), api.Mono{Coef: []uint32{3}, Exps: wide(511, 64)}, mono(1, 1)),
	}
}

func samples() [][]api.Mono { return append(plain(), steep()...) }

// ill is what Check refuses, with the error that it tells.
type ill struct {
	p []api.Mono
	e api.Errno
}

func wrong() []ill {
	form, big := api.ErrPolyForm, api.ErrTooBig
	steep := mono(1, 65)
	return []ill{
		{poly(mono(0)), form},
		{poly(mono(0, 1)), form},
		{poly(api.Mono{}), form},
		{poly(api.Mono{Exps: []int{1}}), form},
		{only([]uint32{1, 0}), form},
		{only(limbs(65, 1)), form},
		{only(power2(64)), form},
		{poly(mono(1, 0)), form},
		{poly(mono(1, 1, 0)), form},
		{poly(mono(1, -1)), form},
		{poly(mono(1, -1, 1)), form},
		{poly(mono(1, 1, -2)), form},
		{poly(mono(1, 1<<62, -1<<63)), form},
		{poly(mono(1), mono(2)), form},
		{poly(mono(1, 1), mono(1, 1)), form},
		{poly(mono(2, 1, 1), mono(3)), form},
		{poly(mono(1, 1), mono(1, 0, 1)), form},
		{poly(mono(1, 1, 1), mono(1, 1)), form},
		{poly(mono(1), mono(1, 2), mono(1, 1)), form},
		{poly(mono(1, 1), steep, mono(1, 2)), form},
		{poly(steep, mono(0, 66)), form},
		{poly(steep, mono(1, 66, 0)), form},
		{append(grid(257), mono(1)), form},
		{poly(steep), big},
		{poly(mono(1, 0, 65), mono(1, 1)), big},
		{poly(mono(1, 1<<62)), big},
		{poly(mono(1, 256)), big},
		{poly(mono(1), mono(1, 64, 65)), big},
		{grid(257), big},
		{grid(600), big},
		{poly(api.Mono{Coef: []uint32{1}, Exps: wide(512, 1)}), big},
		{poly(api.Mono{Coef: []uint32{1}, Exps: wide(5000, 1)}), big},
	}
}

// numbers are naturals of many sizes.
func numbers() [][]uint32 {
	return [][]uint32{nil, {1}, {2}, {7}, {full}, {0, 1}, {5, 6, 7}, limbs(20, full), power2(31), power2(32), limbs(64, full), power2(63)}
}

func freesOf(l [][]api.Mono) []free {
	var out []free
	for _, p := range l {
		out = append(out, freeOf(p))
	}
	return out
}

func bigsOf(l [][]uint32) []*big.Int {
	var out []*big.Int
	for _, a := range l {
		out = append(out, bigOf(a))
	}
	return out
}
