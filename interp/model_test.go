package interp

import (
	"math/big"
	"slices"
	"strconv"
	"strings"

	"lodestone/api"
)

func bigOf(a []uint32) *big.Int {
	n := new(big.Int)
	for _, limb := range slices.Backward(a) {
		n.Lsh(n, 32).Or(n, new(big.Int).SetUint64(uint64(limb)))
	}
	return n
}

func limbsOf(n *big.Int) []uint32 {
	var a []uint32
	for rest := new(big.Int).Set(n); rest.Sign() > 0; rest.Rsh(rest, 32) {
		a = append(a, uint32(rest.Uint64()))
	}
	return a
}

// free is a polynomial that knows no bounds: its coefficients by its exponents as text. So what this project's own polynomials do is not taken on trust here.
type free map[string]*big.Int

func freeOf(p []api.Mono) free {
	f := free{}
	for _, m := range p {
		f.put(m.Exps, bigOf(m.Coef))
	}
	return f
}

func (f free) put(exps []int, n *big.Int) {
	for len(exps) > 0 && exps[len(exps)-1] == 0 {
		exps = exps[:len(exps)-1]
	}
	var words []string
	for _, n := range exps {
		words = append(words, strconv.Itoa(n))
	}
	key := strings.Join(words, " ")
	if f[key] == nil {
		f[key] = new(big.Int)
	}
	f[key].Add(f[key], n)
}

func (f free) each(do func(exps []int, n *big.Int)) {
	for key, n := range f {
		var exps []int
		for _, word := range strings.Fields(key) {
			n, _ := strconv.Atoi(word)
			exps = append(exps, n)
		}
		do(exps, n)
	}
}

func (f free) times(g free) free {
	out := free{}
	f.each(func(a []int, n *big.Int) {
		g.each(func(b []int, m *big.Int) {
			exps := make([]int, max(len(a), len(b)))
			for i, n := range a {
				exps[i] += n
			}
			for i, n := range b {
				exps[i] += n
			}
			out.put(exps, new(big.Int).Mul(n, m))
		})
	})
	return out
}

// of lays polynomials into f, one factor after the other.
func (f free) of(args []free) free {
	out := free{}
	f.each(func(exps []int, n *big.Int) {
		part := free{"": n}
		for i, n := range exps {
			for range n {
				part = part.times(args[i])
			}
		}
		part.each(out.put)
	})
	return out
}

// at is what f is worth.
func (f free) at(values []*big.Int) *big.Int {
	sum := new(big.Int)
	f.each(func(exps []int, n *big.Int) {
		part := new(big.Int).Set(n)
		for i, n := range exps {
			for range n {
				part.Mul(part, values[i])
			}
		}
		sum.Add(sum, part)
	})
	return sum
}

// row is f as monomials in their order, and whether it is in bounds.
func (f free) row() ([]api.Mono, bool) {
	var p []api.Mono
	ok := true
	f.each(func(exps []int, n *big.Int) {
		m := api.Mono{Coef: limbsOf(n), Exps: exps}
		ok = ok && len(m.Coef) <= 64 && len(exps) <= 512 && (len(exps) == 0 || slices.Max(exps) <= 64)
		p = append(p, m)
	})
	slices.SortFunc(p, func(a, b api.Mono) int { return slices.Compare(a.Exps, b.Exps) })
	return p, ok && len(p) <= 256
}

// partAt is the term at a place.
func partAt(sig []api.Symbol, t []int, at int) []int {
	missing, end := 1, at
	for missing > 0 {
		missing--
		if t[end] >= 0 {
			missing += sig[t[end]].Arity
		}
		end++
	}
	return t[at:end]
}

// argsOf are the arguments of the symbol with which a term begins.
func argsOf(sig []api.Symbol, t []int) [][]int {
	var l [][]int
	for at := 1; at < len(t); at += len(l[len(l)-1]) {
		l = append(l, partAt(sig, t, at))
	}
	return l
}

// numbers are those that the variables of some terms get, as they are met: by their codes.
func numbers(terms ...[]int) map[int]int {
	met := map[int]int{}
	for _, code := range slices.Concat(terms...) {
		if _, ok := met[code]; !ok && code < 0 {
			met[code] = len(met)
		}
	}
	return met
}

// reading reads the chapter's words on the polynomial of a term one by one, from the root down.
type reading struct {
	sig    []api.Symbol
	l      []api.Interp
	number map[int]int
}

func (r reading) polynomial(code int) []api.Mono {
	at := slices.IndexFunc(r.l, func(in api.Interp) bool { return in.Sym == code })
	return r.l[at].P
}

// of is a term's polynomial, and whether those of all terms that stand in it are in bounds; it ends at the first one that is not.
func (r reading) of(t []int) (free, bool) {
	f := free{}
	if t[0] < 0 {
		f.put(append(make([]int, r.number[t[0]]), 1), big.NewInt(1))
	} else {
		var args []free
		for _, u := range argsOf(r.sig, t) {
			g, ok := r.of(u)
			if !ok {
				return nil, false
			}
			args = append(args, g)
		}
		f = freeOf(r.polynomial(t[0])).of(args)
	}
	_, ok := f.row()
	return f, ok
}

// worth is what one comes to who goes up from the leaves, where the variables are worth what is told by their codes.
func (r reading) worth(t []int, at map[int]*big.Int) *big.Int {
	if t[0] < 0 {
		return at[t[0]]
	}
	var values []*big.Int
	for _, u := range argsOf(r.sig, t) {
		values = append(values, r.worth(u, at))
	}
	return freeOf(r.polynomial(t[0])).at(values)
}

// falls is what P12.4 asks of two polynomials.
func (f free) falls(g free) int {
	for key, n := range g {
		if f[key] == nil || f[key].Cmp(n) < 0 {
			return 0
		}
	}
	zero := new(big.Int)
	a, b := zero, zero
	if f[""] != nil {
		a = f[""]
	}
	if g[""] != nil {
		b = g[""]
	}
	if a.Cmp(b) > 0 {
		return 2
	}
	return 1
}

// plainCheck reads P12.1 of a signature that is right; check is what poly.Check says.
func plainCheck(sig []api.Symbol, l []api.Interp, check func(p []api.Mono, vars int) api.Errno) api.Errno {
	for i, in := range l {
		twice := slices.ContainsFunc(l[:i], func(ahead api.Interp) bool { return ahead.Sym == in.Sym })
		if twice || in.Sym < 0 || in.Sym >= len(sig) {
			return api.ErrInterpSymbol
		}
		if e := check(in.P, sig[in.Sym].Arity); e == api.ErrPolyForm {
			return api.ErrInterpForm
		} else if e == api.ErrTooBig {
			return api.ErrTooBig
		}
	}
	for code := range sig {
		if !slices.ContainsFunc(l, func(in api.Interp) bool { return in.Sym == code }) {
			return api.ErrInterpSymbol
		}
	}
	return api.OK
}

// plainStrict reads P12.2 of an interpretation that is right.
func plainStrict(sig []api.Symbol, l []api.Interp) bool {
	r := reading{sig: sig, l: l}
	for code, s := range sig {
		for arg := range s.Arity {
			found := false
			for _, m := range r.polynomial(code) {
				found = found || isOfOne(m, arg)
			}
			if !found {
				return false
			}
		}
	}
	return true
}

// isOfOne tells whether that variable's exponent is 1 or more, and all others' are 0.
func isOfOne(m api.Mono, variable int) bool {
	for i, n := range m.Exps {
		if i != variable && n != 0 {
			return false
		}
	}
	return variable < len(m.Exps) && m.Exps[variable] >= 1
}
