package cert

import (
	"slices"

	"lodestone/api"
	"lodestone/pairs"
)

// random draws the same numbers in each run.
type random uint64

func (r *random) below(n int) int {
	*r = *r*6364136223846793005 + 1442695040888963407
	return int(*r>>33) % n
}

// mixed has, of symbols that drawn rules define, f 3 and g 4, and others: zero 0, s 1, c 2.
func mixed() []api.Symbol {
	return []api.Symbol{sym("zero", 0), sym("s", 1), sym("c", 2), sym("f", 1), sym("g", 2)}
}

// term draws a term over mixed of at most about so many nodes, of symbols whose codes are below most, and of these variables.
func (r *random) term(nodes, most int, vars []int) []int {
	if nodes <= 1 || r.below(6) == 0 {
		if at := r.below(len(vars) + 1); at < len(vars) {
			return row(-1 - vars[at])
		}
		return row(0)
	}
	code := 1 + r.below(most-1)
	t := row(code)
	arity := mixed()[code].Arity
	for range arity {
		t = append(t, r.term((nodes-1)/arity, most, vars)...)
	}
	return t
}

// rule draws a right rule over mixed: most often the arguments of its left side are without f and g.
func (r *random) rule() api.Rule {
	most := 3
	if r.below(6) == 0 {
		most = 5
	}
	root := 3 + r.below(2)
	l := row(root)
	for range mixed()[root].Arity {
		l = append(l, r.term(1+r.below(4), most, row(0, 1))...)
	}
	var vars []int
	for _, code := range l {
		if code < 0 {
			vars = append(vars, -1-code)
		}
	}
	if r.below(3) == 0 {
		return rule(l, r.term(1+r.below(7), 5, vars))
	}
	return rule(l, r.call(vars))
}

// call draws a term that is f or g of small ones at its root, or within s or c.
func (r *random) call(vars []int) []int {
	switch r.below(4) {
	case 0:
		return append(row(1), r.call(vars)...)
	case 1:
		return slices.Concat(row(2), r.call(vars), r.call(vars))
	}
	root := 3 + r.below(2)
	t := row(root)
	for range mixed()[root].Arity {
		t = append(t, r.term(1+r.below(2), 3, vars)...)
	}
	return t
}

// descent draws a rule by which f or g goes to f or g of its own arguments, as they are, or of what stands within them, most often in the same place, and most often of less than all.
func (r *random) descent() api.Rule {
	for {
		root, to := 3+r.below(2), 3+r.below(2)
		l, right := row(root), row(to)
		var parts [][][]int
		for arg := range mixed()[root].Arity {
			x, y := -1-2*arg, -2-2*arg
			shapes := [][]int{row(x), row(1, x), row(1, 1, x), row(2, x, y), row(1, 2, x, y)}
			shape := shapes[r.below(len(shapes))]
			l = append(l, shape...)
			parts = append(parts, [][]int{shape, shape, row(x)})
		}
		for arg := range mixed()[to].Arity {
			if arg >= len(parts) || r.below(8) == 0 {
				arg = r.below(len(parts))
			}
			right = append(right, parts[arg][r.below(3)]...)
		}
		if len(right) < len(l) || r.below(16) == 0 {
			return rule(l, right)
		}
	}
}

// system draws a right system over mixed.
func (r *random) system() api.System {
	s := api.System{Sig: mixed()}
	descends := r.below(2) == 0
	for range 1 + r.below(5) {
		if descends {
			s.Rules = append(s.Rules, r.descent())
		} else {
			s.Rules = append(s.Rules, r.rule())
		}
	}
	return s
}

// prec draws pairs of so many symbols' codes, that fall along a drawn order.
func (r *random) prec(n int) [][2]int {
	order := make([]int, n)
	for i := range order {
		order[i] = i
	}
	r.shuffle(n, func(i, k int) { order[i], order[k] = order[k], order[i] })
	var l [][2]int
	for range r.below(2 * n) {
		i, k := r.below(n), r.below(n)
		if i != k {
			l = append(l, [2]int{order[min(i, k)], order[max(i, k)]})
		}
	}
	return l
}

func (r *random) shuffle(n int, swap func(i, k int)) {
	for i := range n {
		swap(i, r.below(i+1))
	}
}

// polynomial draws one of so many variables, of which each counts, if it is to be strict.
func (r *random) polynomial(vars int, isStrict bool) []api.Mono {
	var p []api.Mono
	if r.below(2) == 0 {
		p = append(p, mono(uint32(1+r.below(3))))
	}
	for v := vars - 1; v >= 0; v-- {
		if isStrict || r.below(4) > 0 {
			p = append(p, mono(uint32(1+r.below(2)), append(make([]int, v), 1)...))
		}
		if r.below(12) == 0 {
			p = append(p, mono(1, append(make([]int, v), 2)...))
		}
		if r.below(80) == 0 {
			p = append(p, mono(1, append(make([]int, v), 40)...))
		}
	}
	if vars == 2 && r.below(12) == 0 {
		p = append(p, mono(1, 1, 1))
		slices.SortFunc(p, func(a, b api.Mono) int { return slices.Compare(a.Exps, b.Exps) })
	}
	return p
}

// ints draws an interpretation, in a drawn order.
func (r *random) ints(sig []api.Symbol, isStrict bool) []api.Interp {
	var l []api.Interp
	for code, s := range sig {
		l = append(l, api.Interp{Sym: code, P: r.polynomial(s.Arity, isStrict)})
	}
	r.shuffle(len(l), func(i, k int) { l[i], l[k] = l[k], l[i] })
	return l
}

// lean draws an interpretation by which most symbols are one of their arguments, or nothing: so few pairs fall, and the others stay.
func (r *random) lean(sig []api.Symbol) []api.Interp {
	var l [][]api.Mono
	for _, s := range sig {
		var p []api.Mono
		if r.below(4) == 0 {
			p = number(1)
		}
		if s.Arity > 0 && r.below(5) > 0 {
			p = append(p, mono(1, append(make([]int, r.below(s.Arity)), 1)...))
		}
		l = append(l, p)
	}
	return given(l...)
}

// single draws a certificate of one node: now and then it looks for one that is accepted.
func (r *random) single(s api.System) api.Node {
	var node api.Node
	for range 1 + r.below(20) {
		node = lpoNode(r.prec(len(s.Sig))...)
		if r.below(2) == 0 {
			node = polyNode(r.ints(s.Sig, r.below(10) > 0))
		}
		if Check(s, nodes(node)) == api.Accept {
			break
		}
	}
	return node
}

// certificate draws a tree by dependency pairs: node for node it looks for one that is accepted, as long as a few tries go.
func (r *random) certificate(s api.System) []api.Node {
	l, e := pairs.Of(s)
	if e != api.OK {
		return nil
	}
	parts := plainParts(s, l)
	tree := nodes(pairsNode(len(parts)))
	for _, part := range parts {
		tree = append(tree, r.proof(s, part)...)
	}
	return tree
}

// proof draws a node for a part, and what stands below it; of the nodes that are accepted it takes the one that leaves the most parts, if there are some.
func (r *random) proof(s api.System, part []api.Rule) []api.Node {
	var best api.Node
	var left [][]api.Rule
	for range 60 {
		node := r.proc(s)
		parts, v := plainBelow(s, node, part)
		if best.Kind == 0 || v == api.Accept && len(parts) >= len(left) {
			best, left = node, parts
			best.Kids = len(parts)
		}
	}
	tree := nodes(best)
	for _, l := range left {
		tree = append(tree, r.proof(s, l)...)
	}
	return tree
}

func (r *random) proc(s api.System) api.Node {
	sig, _ := pairs.Extend(s.Sig)
	switch r.below(5) {
	case 0:
		return byLpo(0, r.prec(len(sig))...)
	case 1:
		return byPoly(0, r.ints(sig, false))
	}
	return byPoly(0, r.lean(sig))
}

// any draws a certificate of any kind.
func (r *random) any(s api.System) []api.Node {
	if r.below(3) == 0 {
		return nodes(r.single(s))
	}
	return r.certificate(s)
}

// changed is a certificate with one thing in it that is otherwise.
func (r *random) changed(s api.System, l []api.Node) []api.Node {
	l = slices.Clone(l)
	if len(l) == 0 {
		return l
	}
	at := r.below(len(l))
	switch node := &l[at]; r.below(9) {
	case 0:
		node.Kids += 1 - 2*r.below(2)
	case 1:
		node.Kind = r.below(7)
	case 2:
		l = slices.Delete(l, at, at+1)
	case 3:
		l = slices.Insert(l, at, l[r.below(len(l))])
	case 4:
		other := r.below(len(l))
		l[at], l[other] = l[other], l[at]
	case 5:
		node.Prec = append(slices.Clone(node.Prec), [2]int{r.below(11), r.below(11)})
	case 6:
		if node.Ints = slices.Clone(node.Ints); len(node.Ints) > 0 {
			i := r.below(len(node.Ints))
			node.Ints[i].P = r.polynomial(mixed()[node.Ints[i].Sym%5].Arity, false)
		}
	case 7: // great powers of s and c: some terms are too big then
		node.Ints = slices.Clone(node.Ints)
		for i := range node.Ints {
			if sym := node.Ints[i].Sym; sym == 1 || sym == 2 {
				node.Ints[i].P = monos(mono(1, 1), mono(1, api.MaxDegree))
			}
		}
	case 8:
		if len(node.Prec) > 0 {
			i := r.below(len(node.Prec))
			node.Prec = slices.Delete(slices.Clone(node.Prec), i, i+1)
		}
	}
	return l
}
