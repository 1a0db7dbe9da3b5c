package norm

import (
	"slices"
	"strconv"
	"testing"

	"lodestone/api"
)

func sym(name string, arity int) api.Symbol { return api.Symbol{Name: name, Arity: arity} }

func row(codes ...int) []int { return codes }

func rule(l, r []int) api.Rule { return api.Rule{L: l, R: r} }

// mono is a monomial with a small coefficient; x is the argument of that number, plus n.
func mono(c uint32, exps ...int) api.Mono { return api.Mono{Coef: []uint32{c}, Exps: exps} }

func x(arg int, n uint32) []api.Mono {
	p := []api.Mono{mono(1, append(make([]int, arg), 1)...)}
	if n > 0 {
		return append([]api.Mono{mono(n)}, p...)
	}
	return p
}

// sum is x0 + x1, number is n.
func sum() []api.Mono { return []api.Mono{mono(1, 0, 1), mono(1, 1)} }

func number(n uint32) []api.Mono { return []api.Mono{mono(n)} }

// given gives the symbols 0, 1, .. these polynomials.
func given(polynomials ...[]api.Mono) []api.Interp {
	var l []api.Interp
	for code, p := range polynomials {
		l = append(l, api.Interp{Sym: code, P: p})
	}
	return l
}

// Certificates: of one node, by a precedence or by an interpretation; by pairs, of so many parts, with the nodes below.

func paths(l ...[2]int) []api.Node { return []api.Node{{Kind: api.CertLpo, Prec: l}} }

func worth(polynomials ...[]api.Mono) []api.Node {
	return []api.Node{{Kind: api.CertPoly, Ints: given(polynomials...)}}
}

func pairs(kids int, below ...api.Node) []api.Node {
	return append([]api.Node{{Kind: api.CertPairs, Kids: kids}}, below...)
}

func byPaths(l ...[2]int) api.Node { return api.Node{Kind: api.ProcLpo, Prec: l} }

func byWorth(polynomials ...[]api.Mono) api.Node {
	return api.Node{Kind: api.ProcPoly, Ints: given(polynomials...)}
}

// three is the document's signature.
func three() []api.Symbol { return []api.Symbol{sym("zero", 0), sym("s", 1), sym("plus", 2)} }

// over is a system with the document's signature.
func over(rules ...api.Rule) api.System { return api.System{Sig: three(), Rules: rules} }

// sums is the document's system, and plusAboveS its certificate.
func sums() api.System {
	return over(rule(row(2, 0, -2), row(-2)), rule(row(2, 1, -1, -2), row(1, 2, -1, -2)))
}

func plusAboveS() []api.Node { return paths([2]int{2, 1}) }

// strict are the document's polynomials of sums: zero 1, s x0 + 1, plus 2 x0 + x1; weak those of its pairs.
func strict() [][]api.Mono {
	return [][]api.Mono{number(1), x(0, 1), {mono(1, 0, 1), mono(2, 1)}}
}

func weak() [][]api.Mono { return [][]api.Mono{nil, x(0, 1), sum(), nil, nil, x(0, 0)} }

// tower is s of s .. of end, with n nodes in all; s has the code 1.
func tower(n, end int) []int { return append(slices.Repeat(row(1), n-1), end) }

// times has so many codes of one kind.
func times(n, code int) []int { return slices.Repeat(row(code), n) }

// many has symbols without arguments, with one and with two, in turn.
func many(n int) []api.Symbol {
	var sig []api.Symbol
	for i := range n {
		sig = append(sig, sym("f"+strconv.Itoa(i), i%3))
	}
	return sig
}

// built is the Norm of a system whose certificate is to be accepted.
func built(t *testing.T, s api.System, l []api.Node) *Norm {
	t.Helper()
	n, e := New(s, l)
	if e != api.OK || n == nil {
		t.Fatalf("New(%v, %v): %v, %v", s, l, n, e)
	}
	return n
}

// fails holds what New answers, where there is no Norm.
func fails(t *testing.T, s api.System, l []api.Node, want api.Errno) {
	t.Helper()
	if n, e := New(s, l); n != nil || e != want {
		t.Fatalf("New(%v, %v): %v, %v, want %v", s, l, n, e, want)
	}
}

// becomes holds what Normal answers, where there is an end; stays where there is none.
func becomes(t *testing.T, n *Norm, u []int, want ...int) {
	t.Helper()
	if got, e := n.Normal(u); e != api.OK || !slices.Equal(got, want) {
		t.Fatalf("%v: Normal(%v): %v, %v, want %v", n.System(), u, got, e, want)
	}
}

func stays(t *testing.T, n *Norm, u []int, want api.Errno) {
	t.Helper()
	if got, e := n.Normal(u); e != want || len(got) > 0 {
		t.Fatalf("%v: Normal(%v): %v, %v, want %v", n.System(), u, got, e, want)
	}
}

// sameSystem holds systems against each other, rows and all.
func sameSystem(a, b api.System) bool {
	return slices.Equal(a.Sig, b.Sig) && slices.EqualFunc(a.Rules, b.Rules, func(x, y api.Rule) bool {
		return slices.Equal(x.L, y.L) && slices.Equal(x.R, y.R)
	})
}
