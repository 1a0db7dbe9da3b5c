package cert

import (
	"slices"
	"testing"

	"lodestone/api"
	"lodestone/interp"
	"lodestone/lpo"
	"lodestone/pairs"
	"lodestone/prec"
	"lodestone/system"
)

// plainCheck reads P15.1 word by word: it goes along the row, with a list of what the nodes that come are to be held for.
func plainCheck(s api.System, l []api.Node) api.Verdict {
	if len(l) > api.MaxCertNodes {
		return api.TooBig
	}
	if e, _ := system.Check(s); e != api.OK {
		return api.Refuse
	}
	if rest, ok := plainTree(l); !ok || len(rest) > 0 {
		return api.Refuse
	}
	var waiting [][]api.Rule
	for i, node := range l {
		var parts [][]api.Rule
		var v api.Verdict
		if i == 0 {
			parts, v = plainFirst(s, node)
		} else {
			parts, v = plainBelow(s, node, waiting[0])
			waiting = waiting[1:]
		}
		if v != api.Accept {
			return v
		}
		if node.Kids != len(parts) {
			return api.Refuse
		}
		waiting = slices.Concat(parts, waiting)
	}
	return api.Accept
}

// plainTree takes a tree away from the front of a row.
func plainTree(l []api.Node) ([]api.Node, bool) {
	if len(l) == 0 || l[0].Kids < 0 {
		return nil, false
	}
	rest, ok := l[1:], true
	for kid := 0; kid < l[0].Kids && ok; kid++ {
		rest, ok = plainTree(rest)
	}
	return rest, ok
}

func plainFirst(s api.System, node api.Node) ([][]api.Rule, api.Verdict) {
	switch node.Kind {
	case api.CertLpo:
		p, e := prec.Close(len(s.Sig), node.Prec)
		if e != api.OK {
			return nil, api.Refuse
		}
		for _, a := range s.Rules {
			if !lpo.Greater(s.Sig, p, a.L, a.R) {
				return nil, api.Refuse
			}
		}
		return nil, api.Accept
	case api.CertPoly:
		if interp.Check(s.Sig, node.Ints) != api.OK || !interp.Strict(s.Sig, node.Ints) {
			return nil, api.Refuse
		}
		for _, a := range s.Rules {
			switch n, e := interp.Falls(s.Sig, node.Ints, a); {
			case e == api.ErrTooBig:
				return nil, api.TooBig
			case n != 2:
				return nil, api.Refuse
			}
		}
		return nil, api.Accept
	case api.CertPairs:
		l, e := pairs.Of(s)
		if e == api.ErrTooBig {
			return nil, api.TooBig
		}
		return plainParts(s, l), api.Accept
	}
	return nil, api.Refuse
}

func plainBelow(s api.System, node api.Node, list []api.Rule) ([][]api.Rule, api.Verdict) {
	sig, _ := pairs.Extend(s.Sig)
	p, e := prec.Close(len(sig), node.Prec)
	switch {
	case node.Kind == api.ProcLpo && e == api.OK:
	case node.Kind == api.ProcPoly && interp.Check(sig, node.Ints) == api.OK:
	default:
		return nil, api.Refuse
	}
	var left []api.Rule
	for i, a := range slices.Concat(s.Rules, list) {
		var stays, falls bool
		if node.Kind == api.ProcLpo {
			stays, falls = slices.Equal(a.L, a.R), lpo.Greater(sig, p, a.L, a.R)
		} else {
			n, e := interp.Falls(sig, node.Ints, a)
			if e == api.ErrTooBig {
				return nil, api.TooBig
			}
			stays, falls = n == 1, n == 2
		}
		if !stays && !falls {
			return nil, api.Refuse
		}
		if i >= len(s.Rules) && stays {
			left = append(left, a)
		}
	}
	if len(left) == len(list) {
		return nil, api.Refuse
	}
	return plainParts(s, left), api.Accept
}

// plainParts are the parts of the graph of these pairs alone.
func plainParts(s api.System, l []api.Rule) [][]api.Rule {
	ways := make([][]bool, len(l))
	for i, to := range pairs.Graph(s, l) {
		ways[i] = make([]bool, len(l))
		for _, k := range to {
			ways[i][k] = true
		}
	}
	for by := range l {
		for i := range l {
			for k := range l {
				ways[i][k] = ways[i][k] || ways[i][by] && ways[by][k]
			}
		}
	}
	var parts [][]api.Rule
	told := make([]bool, len(l))
	for i := range l {
		var part []api.Rule
		for k := range l {
			if !told[i] && ways[i][k] && ways[k][i] {
				part = append(part, l[k])
				told[k] = k != i
			}
		}
		if told[i] = true; part != nil {
			parts = append(parts, part)
		}
	}
	return parts
}

// TestSmall holds a checker's answers to all small rules alone, and to drawn systems of two and three of them, against the plain reading.
func TestSmall(t *testing.T) { // P15.1
	l := smallRules(4, 3)
	count := map[api.Verdict]int{}
	hold := func(s api.System) {
		for _, c := range smallCertificates() {
			want := plainCheck(s, c)
			says(t, s, want, c...)
			count[want]++
		}
	}
	for _, a := range l {
		hold(over(a))
	}
	r := random(1)
	for range 1500 {
		s := over()
		for range 2 + r.below(2) {
			s.Rules = append(s.Rules, l[r.below(len(l))])
		}
		hold(s)
	}
	if count[api.Accept] < 3000 || count[api.Refuse] < 3000 || count[api.TooBig] < 1000 {
		t.Errorf("of %d rules: %v", len(l), count)
	}
}

// smallTerms are all terms over three with at most n nodes, of the variables from 0 on, as many as are asked for.
func smallTerms(n, vars int) [][]int {
	bySize := make([][][]int, n+1)
	bySize[1] = [][]int{{0}}
	for v := range vars {
		bySize[1] = append(bySize[1], row(-1-v))
	}
	for size := 2; size <= n; size++ {
		for _, a := range bySize[size-1] {
			bySize[size] = append(bySize[size], slices.Concat(row(1), a))
		}
		for left := 1; left <= size-2; left++ {
			for _, a := range bySize[left] {
				for _, b := range bySize[size-1-left] {
					bySize[size] = append(bySize[size], slices.Concat(row(2), a, b))
				}
			}
		}
	}
	return slices.Concat(bySize...)
}

// smallRules are all right rules over three with at most so many nodes on their sides.
func smallRules(left, right int) []api.Rule {
	var l []api.Rule
	for _, t := range smallTerms(left, 2) {
		for _, u := range smallTerms(right, 2) {
			if t[0] >= 0 && isClosed(t, u) {
				l = append(l, rule(t, u))
			}
		}
	}
	return l
}

// isClosed tells whether the right side has no variable that the left one has not.
func isClosed(l, r []int) bool {
	return !slices.ContainsFunc(r, func(code int) bool { return code < 0 && !slices.Contains(l, code) })
}

// smallCertificates are some over three, which small systems often agree with.
func smallCertificates() [][]api.Node {
	up, down := above([2]int{1, 2}, [2]int{1, 0}, [2]int{2, 0}), above([2]int{2, 1}, [2]int{2, 0}, [2]int{1, 0})
	great := append(given(nil, monos(mono(1), mono(1, 40)), monos(mono(1, 0, 2), mono(1, 2))), given(nil, nil, nil, nil, first(), sum())[3:]...)
	l := [][]api.Node{
		nodes(lpoNode(up...)), nodes(lpoNode(down...)), nodes(lpoNode()),
		nodes(polyNode(strict())), nodes(polyNode(but(strict(), 2, mono(1), mono(1, 0, 1), mono(1, 1)))),
		nodes(polyNode(great[:3])),
		nodes(pairsNode(0)),
	}
	kids := []api.Node{
		byLpo(0, up...), byLpo(0, append(down, [2]int{4, 5}, [2]int{1, 5})...), byLpo(1),
		byPoly(0, weak()), byPoly(1, weak()), byPoly(0, but(weak(), 4, mono(1, 1))),
		byPoly(0, but(but(weak(), 4, mono(1, 1)), 5, sum()...)), byPoly(1, but(but(weak(), 4, mono(1, 1)), 5, mono(1, 0, 1))),
		byPoly(0, great),
	}
	for i, kid := range kids {
		switch other := kids[(i+3)%len(kids)]; {
		case kid.Kids == 0:
			l = append(l, nodes(pairsNode(1), kid))
			other.Kids = 0
			l = append(l, nodes(pairsNode(2), kid, other))
		default:
			other.Kids = 0
			l = append(l, nodes(pairsNode(1), kid, other), nodes(pairsNode(2), kid, other, other))
		}
	}
	return l
}
