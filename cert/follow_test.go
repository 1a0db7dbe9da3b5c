package cert

import (
	"math/big"
	"slices"
	"testing"

	"lodestone/api"
	"lodestone/lpo"
	"lodestone/prec"
)

// TestStepsFallByPaths: each step, at any place, makes a lesser term.
func TestStepsFallByPaths(t *testing.T) { // P15.3
	r := random(5)
	steps := 0
	for range 4000 {
		s := r.system()
		node := lpoNode(r.prec(len(s.Sig))...)
		if Check(s, nodes(node)) != api.Accept {
			continue
		}
		p, e := prec.Close(len(s.Sig), node.Prec)
		if e != api.OK {
			t.Fatal(e)
		}
		for range 10 {
			u := r.subject(s)
			for _, v := range allSteps(s, u) {
				steps++
				if !lpo.Greater(s.Sig, p, u, v) || lpo.Greater(s.Sig, p, v, u) {
					t.Fatalf("%v is rewritten to %v, which is not less: %v, %v", u, v, s, node)
				}
			}
		}
	}
	if steps < 1000 {
		t.Errorf("only %d steps", steps)
	}
}

// TestStepsFallByWorth: each step, at any place, makes a term that is worth less, whatever naturals the variables are.
func TestStepsFallByWorth(t *testing.T) { // P15.3
	r := random(6)
	steps := 0
	for range 3000 {
		s := r.system()
		node := polyNode(r.ints(s.Sig, true))
		if Check(s, nodes(node)) != api.Accept {
			continue
		}
		for range 10 {
			u := r.subject(s)
			for _, v := range allSteps(s, u) {
				steps++
				for _, at := range [][2]int64{{0, 0}, {0, 1}, {1, 0}, {7, 3}, {1 << 40, 1 << 50}} {
					if worth(s.Sig, node.Ints, u, at).Cmp(worth(s.Sig, node.Ints, v, at)) <= 0 {
						t.Fatalf("%v is rewritten to %v, which is not worth less at %v: %v, %v", u, v, at, s, node)
					}
				}
			}
		}
	}
	if steps < 1000 {
		t.Errorf("only %d steps", steps)
	}
}

// worth reckons what a term is worth, from its end to its root; the variables are 0 and 1.
func worth(sig []api.Symbol, l []api.Interp, t []int, at [2]int64) *big.Int {
	var stack []*big.Int
	for _, code := range slices.Backward(t) {
		if code < 0 {
			stack = append(stack, big.NewInt(at[-1-code]))
			continue
		}
		rest := len(stack) - sig[code].Arity
		args := slices.Clone(stack[rest:])
		slices.Reverse(args)
		i := slices.IndexFunc(l, func(in api.Interp) bool { return in.Sym == code })
		stack = append(stack[:rest], worthOf(l[i].P, args))
	}
	return stack[0]
}

func worthOf(p []api.Mono, args []*big.Int) *big.Int {
	sum := new(big.Int)
	for _, m := range p {
		product := big.NewInt(int64(m.Coef[0]))
		for i, exp := range m.Exps {
			product.Mul(product, new(big.Int).Exp(args[i], big.NewInt(int64(exp)), nil))
		}
		sum.Add(sum, product)
	}
	return sum
}

// eachSingle hands out drawn systems with certificates of the first two kinds, and whether they are accepted.
func eachSingle(t *testing.T, seed random, n int, hold func(r *random, s api.System, l []api.Node, is bool)) {
	t.Helper()
	r := seed
	accepted := 0
	for range n {
		s := r.system()
		l := nodes(r.single(s))
		if r.below(4) == 0 {
			l = r.changed(s, l)
		}
		is := Check(s, l) == api.Accept
		if is {
			accepted++
		}
		hold(&r, s, l, is)
	}
	if accepted < n/20 || accepted > n/2 {
		t.Errorf("%d of %d were accepted", accepted, n)
	}
}

// holdAs holds that a certificate is accepted, or not, as before.
func holdAs(t *testing.T, s api.System, l []api.Node, is bool) {
	t.Helper()
	if v := Check(s, l); (v == api.Accept) != is {
		t.Fatalf("Check(%v, %v): %d; it was accepted before: %v", s, l, v, is)
	}
}

func TestRulesInAnotherOrder(t *testing.T) { // P15.4
	eachSingle(t, 7, 1500, func(r *random, s api.System, l []api.Node, is bool) {
		for range 3 {
			other := api.System{Sig: s.Sig, Rules: slices.Clone(s.Rules)}
			r.shuffle(len(s.Rules), func(i, k int) { other.Rules[i], other.Rules[k] = other.Rules[k], other.Rules[i] })
			holdAs(t, other, l, is)
		}
		twice := api.System{Sig: s.Sig, Rules: slices.Concat(s.Rules, s.Rules)}
		holdAs(t, twice, l, is)
	})
}

// TestRulesRenamed gives the variables of each rule other numbers, and the symbols other names.
func TestRulesRenamed(t *testing.T) { // P15.4
	eachSingle(t, 8, 1500, func(r *random, s api.System, l []api.Node, is bool) {
		other := api.System{Sig: slices.Clone(s.Sig)}
		for i, a := range s.Rules {
			far, turned := r.below(api.MaxVar-10), r.below(2) == 0
			to := func(t []int) []int {
				u := slices.Clone(t)
				for at, code := range u {
					if code < 0 && turned {
						u[at] = -1 - far - (9 + code)
					} else if code < 0 {
						u[at] = code - far
					}
				}
				return u
			}
			other.Rules = append(other.Rules, rule(to(a.L), to(s.Rules[i].R)))
		}
		for i := range other.Sig {
			other.Sig[i].Name = s.Sig[(i+1)%len(s.Sig)].Name
		}
		holdAs(t, other, l, is)
	})
}

// TestSymbolsRenumbered: the symbols stand in another order in the signature, and the rules and the certificate tell them so.
func TestSymbolsRenumbered(t *testing.T) { // P15.4
	eachSingle(t, 9, 1000, func(r *random, s api.System, l []api.Node, is bool) {
		to := row(0, 1, 2, 3, 4)
		r.shuffle(5, func(i, k int) { to[i], to[k] = to[k], to[i] })
		code := func(n int) int {
			if n >= 0 && n < 5 {
				return to[n]
			}
			return n
		}
		term := func(t []int) []int {
			var u []int
			for _, n := range t {
				u = append(u, code(n))
			}
			return u
		}
		other := api.System{Sig: make([]api.Symbol, 5)}
		for i, symbol := range s.Sig {
			other.Sig[to[i]] = symbol
		}
		for _, a := range s.Rules {
			other.Rules = append(other.Rules, rule(term(a.L), term(a.R)))
		}
		var tree []api.Node
		for _, node := range l {
			renamed := api.Node{Kind: node.Kind, Kids: node.Kids}
			for _, pair := range node.Prec {
				renamed.Prec = append(renamed.Prec, [2]int{code(pair[0]), code(pair[1])})
			}
			for _, in := range node.Ints {
				renamed.Ints = append(renamed.Ints, api.Interp{Sym: code(in.Sym), P: in.P})
			}
			tree = append(tree, renamed)
		}
		holdAs(t, other, tree, is)
	})
}

// TestRuleLess: with a rule less, and with several, what was accepted is accepted, too.
func TestRuleLess(t *testing.T) { // P15.4
	eachSingle(t, 10, 1500, func(r *random, s api.System, l []api.Node, is bool) {
		if !is {
			return
		}
		for i := range s.Rules {
			less := api.System{Sig: s.Sig, Rules: slices.Delete(slices.Clone(s.Rules), i, i+1)}
			accepts(t, less, l...)
			less.Rules = less.Rules[:r.below(len(less.Rules)+1)]
			accepts(t, less, l...)
		}
		accepts(t, api.System{Sig: s.Sig}, l...)
	})
}
