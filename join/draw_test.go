package join

import (
	"slices"

	"lodestone/api"
	"lodestone/lpo"
	"lodestone/overlap"
	"lodestone/prec"
	"lodestone/walk"
)

// random draws the same numbers in each run.
type random uint64

func (r *random) below(n int) int {
	*r = *r*6364136223846793005 + 1442695040888963407
	return int(*r>>33) % n
}

// mixed has symbols of several arities: zero 0, one 1, s 2, f 3, c 4, g 5.
func mixed() []api.Symbol {
	return []api.Symbol{sym("zero", 0), sym("one", 0), sym("s", 1), sym("f", 1), sym("c", 2), sym("g", 2)}
}

// term draws a term over mixed of at most so many nodes, of the variables from 0 on, as many as are asked for.
func (r *random) term(nodes, vars int) []int {
	if nodes <= 1 || r.below(8) == 0 {
		return row(r.below(vars+2) - vars)
	}
	code := 2 + r.below(4)
	t := row(code)
	arity := mixed()[code].Arity
	for range arity {
		t = append(t, r.term((nodes-1)/arity, vars)...)
	}
	return t
}

// above draws an order of all symbols.
func (r *random) above(n int) [][2]int {
	var order []int
	for i := range n {
		order = slices.Insert(order, r.below(i+1), i)
	}
	var l [][2]int
	for i := 1; i < n; i++ {
		l = append(l, [2]int{order[i-1], order[i]})
	}
	return l
}

// system draws equations over mixed, and turns them as a drawn order says: that is the certificate. If it is to be great, one side is, so that some pairs are too big.
func (r *random) system(great bool) certified {
	c := certified{s: api.System{Sig: mixed()}, l: paths(r.above(len(mixed()))...)}
	most := 1 + r.below(6)
	for len(c.s.Rules) < most {
		nodes := 1 + r.below(9)
		if great && len(c.s.Rules) == 0 {
			nodes = 200
		}
		c = c.turned(rule(r.term(2+r.below(6), 2), r.term(nodes, 2)))
	}
	return c
}

// turned is a system that has an equation more, if the order tells its sides apart.
func (c certified) turned(a api.Rule) certified {
	p, _ := prec.Close(len(c.s.Sig), c.l[0].Prec)
	switch lpo.Orient(c.s.Sig, p, a) {
	case 1:
		return c.with(a)
	case -1:
		return c.with(rule(a.R, a.L))
	}
	return c
}

// completed turns pairs that part into rules, a few times: then all may be joined.
func (c certified) completed() certified {
	for range 12 {
		var more []api.Rule
		for _, j := range plainReport(c.s) {
			if j.Code == api.OK && !j.Joined {
				more = append(more, rule(j.Left, j.Right))
			}
		}
		if len(more) == 0 {
			break
		}
		shortest := slices.MinFunc(more, func(a, b api.Rule) int { return len(a.L) + len(a.R) - len(b.L) - len(b.R) })
		c = c.turned(shortest)
	}
	return c
}

// isSmall tells whether a system's pairs are few, and no side of one has a long path.
func (c certified) isSmall() bool {
	pairs, e := overlap.All(c.s)
	return e == api.OK && len(pairs) <= 100 && !slices.ContainsFunc(pairs, func(pair api.Critical) bool {
		return pair.Code == api.OK && (!isShort(c.s, pair.L) || !isShort(c.s, pair.R))
	})
}

// isShort tells whether the path of a term has not many steps, whatever there is at its end.
func isShort(s api.System, t []int) bool {
	w, e := walk.Walk(s, t, 100)
	return e != api.OK || w.Normal
}

// eachDrawn hands out drawn systems: some great ones, and each second one completed as far as it goes.
func eachDrawn(seed random, n int, hold func(r *random, c certified)) {
	r := seed
	for i := range n {
		great := i%6 == 0
		c := r.system(great)
		for !c.isSmall() {
			c = r.system(great)
		}
		if i%2 == 1 {
			if more := c.completed(); more.isSmall() {
				c = more
			}
		}
		hold(&r, c)
	}
}

// shuffled is a system whose rules stand in another order, and where each one stood.
func (r *random) shuffled(c certified) (certified, []int) {
	var was []int
	for i := range c.s.Rules {
		was = slices.Insert(was, r.below(i+1), i)
	}
	other := c
	other.s.Rules = nil
	for _, i := range was {
		other.s.Rules = append(other.s.Rules, c.s.Rules[i])
	}
	return other, was
}

// renamed is a system each rule of which has other variables, unlike ones again.
func (r *random) renamed(c certified) certified {
	other := c
	other.s.Rules = nil
	for _, a := range c.s.Rules {
		numbers := map[int]int{}
		another := func(t []int) []int {
			u := slices.Clone(t)
			for i, code := range u {
				if code >= 0 {
					continue
				}
				for numbers[code] == 0 {
					number := -1 - row(r.below(4), r.below(100), api.MaxVar-1-r.below(3))[r.below(3)]
					if !holds(numbers, number) {
						numbers[code] = number
					}
				}
				u[i] = numbers[code]
			}
			return u
		}
		l := another(a.L)
		other.s.Rules = append(other.s.Rules, rule(l, another(a.R)))
	}
	return other
}

func holds(numbers map[int]int, number int) bool {
	for _, n := range numbers {
		if n == number {
			return true
		}
	}
	return false
}

// subject draws a term over a system's signature in which left sides stand, with binds, and left sides within these.
func (r *random) subject(s api.System) []int {
	for {
		if u := r.nested(s, 1+r.below(6), 2); len(u) <= 60 {
			return u
		}
	}
}

func (r *random) nested(s api.System, nodes, depth int) []int {
	switch {
	case depth > 0 && len(s.Rules) > 0 && r.below(2) == 0:
		l := s.Rules[r.below(len(s.Rules))].L
		binds := map[int][]int{}
		for _, code := range l {
			if code < 0 && binds[code] == nil {
				binds[code] = r.nested(s, 1+r.below(4), depth-1)
			}
		}
		return laid(l, binds)
	case nodes <= 1 || len(s.Sig) == 0:
		return row(row(-1, -2, -3, -api.MaxVar)[r.below(4)])
	}
	code := r.below(len(s.Sig))
	t := row(code)
	for range s.Sig[code].Arity {
		t = append(t, r.nested(s, nodes/s.Sig[code].Arity-r.below(2), depth)...)
	}
	return t
}
