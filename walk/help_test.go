package walk

import (
	"slices"
	"strconv"
	"testing"

	"lodestone/api"
)

func sym(name string, arity int) api.Symbol { return api.Symbol{Name: name, Arity: arity} }

func row(codes ...int) []int { return codes }

func rule(l, r []int) api.Rule { return api.Rule{L: l, R: r} }

func redex(at, rule int) api.Redex { return api.Redex{At: at, Rule: rule} }

func steps(l ...api.Redex) []api.Redex { return l }

func bind(v int, codes ...int) api.Bind { return api.Bind{Var: v, T: codes} }

// three is the document's signature.
func three() []api.Symbol { return []api.Symbol{sym("zero", 0), sym("s", 1), sym("plus", 2)} }

// over is a system with the document's signature.
func over(rules ...api.Rule) api.System { return api.System{Sig: three(), Rules: rules} }

// sums is the document's system.
func sums() api.System {
	return over(rule(row(2, 0, -2), row(-2)), rule(row(2, 1, -1, -2), row(1, 2, -1, -2)))
}

// smallSystems are right systems over three: with paths that all end, with some that go in circles, grow, or go on for ever without growing; with one rule and with several at a place.
func smallSystems() []api.System {
	x, y, far := -1, -2, -api.MaxVar
	return []api.System{
		over(),
		sums(),
		over(rule(row(0), row(1, 0))),
		over(rule(row(1, 0), row(0)), rule(row(2, 0, 0), row(0))),
		over(rule(row(1, 1, far), row(1, far))),
		over(rule(row(2, x, x), row(x))),
		over(rule(row(2, x, 1, x), row(2, x, x)), rule(row(2, 1, y, y), row(0))),
		over(rule(row(2, x, y), row(2, y, x)), rule(row(2, x, 0), row(x))),
		over(rule(row(2, x, 0), row(x)), rule(row(2, 0, x), row(x)), rule(row(2, x, y), row(2, y, x))),
		over(rule(row(1, x), row(2, x, x)), rule(row(1, x), row(0))),
		over(rule(row(2, 2, x, y, -3), row(2, x, 2, y, -3)), rule(row(2, x, 0), row(x)), rule(row(1, 1, x), row(x))),
	}
}

// letters has symbols with one argument, and an end: terms are words.
func letters(rules ...api.Rule) api.System {
	return api.System{Sig: []api.Symbol{sym("end", 0), sym("a", 1), sym("b", 1)}, Rules: rules}
}

// sorting brings each b ahead of each a, one exchange at a time.
func sorting() api.System { return letters(rule(row(1, 2, -1), row(2, 1, -1))) }

// word is so many a, and behind them so many b.
func word(a, b int) []int {
	return slices.Concat(slices.Repeat(row(1), a), slices.Repeat(row(2), b), row(0))
}

// sorted is what sorting makes of such a word, by a * b steps.
func sorted(a, b int) []int {
	return slices.Concat(slices.Repeat(row(2), b), slices.Repeat(row(1), a), row(0))
}

// all has a symbol of each arity: its code is its arity.
func all() []api.Symbol {
	var sig []api.Symbol
	for n := range api.MaxArity + 1 {
		sig = append(sig, sym("f"+strconv.Itoa(n), n))
	}
	return sig
}

// many has symbols without arguments, with one and with two, in turn.
func many(n int) []api.Symbol {
	var sig []api.Symbol
	for i := range n {
		sig = append(sig, sym("f"+strconv.Itoa(i), i%3))
	}
	return sig
}

// tower is s of s .. of end, with n nodes in all; s has the code 1.
func tower(n, end int) []int { return append(slices.Repeat([]int{1}, n-1), end) }

// smallTerms are all terms over three with at most n nodes, of the variables from 0 on, as many as are asked for.
func smallTerms(n, vars int) [][]int {
	bySize := make([][][]int, n+1)
	bySize[1] = [][]int{{0}}
	for v := range vars {
		bySize[1] = append(bySize[1], row(-1-v))
	}
	for size := 2; size <= n; size++ {
		for _, a := range bySize[size-1] {
			bySize[size] = append(bySize[size], slices.Concat(row(1), a))
		}
		for left := 1; left <= size-2; left++ {
			for _, a := range bySize[left] {
				for _, b := range bySize[size-1-left] {
					bySize[size] = append(bySize[size], slices.Concat(row(2), a, b))
				}
			}
		}
	}
	return slices.Concat(bySize...)
}

// badRows are no terms over three, with what is wrong with them.
func badRows() map[api.Errno][][]int {
	return map[api.Errno][][]int{
		api.ErrTermShort: {nil, {}, {1}, {2, 0}, {2, 0, 2, 0}, {2, 2, 0, 0}, tower(600, 1)},
		api.ErrTermCode:  {{3}, {1, 3}, {2, 2, 0, 0, 4}, {1, -api.MaxVar - 1}, {-1 << 63}, {1<<63 - 1}, tower(600, 3)},
		api.ErrTermMore:  {{0, 0}, {-1, -1}, {2, 0, 0, 0}, {1, 0, 99}, append(tower(600, 0), 3)},
	}
}

// wrongSystem is a system that is not right, with what system.Check says of it.
type wrongSystem struct {
	s api.System
	e api.Errno
}

// wrongSystems have one fault each, and rules that would match ahead of it.
func wrongSystems() []wrongSystem {
	withSig := func(more ...api.Symbol) api.System {
		return api.System{Sig: append(three(), more...), Rules: sums().Rules}
	}
	behind := func(l, r []int) api.System { return over(append(sums().Rules, rule(l, r))...) }
	return []wrongSystem{
		{withSig(sym("1", 1)), api.ErrSigName},
		{withSig(sym("f#", 1)), api.ErrSigName},
		{withSig(sym("f", 9)), api.ErrSigArity},
		{withSig(sym("f", -1)), api.ErrSigArity},
		{withSig(sym("s", 2)), api.ErrSigTwice},
		{withSig(many(api.MaxSymbols - 2)...), api.ErrSigMany},
		{withSig(many(2 * api.MaxSymbols)...), api.ErrSigMany},
		{over(slices.Repeat(sums().Rules, 33)...), api.ErrSystemMany},
		{behind(nil, row(0)), api.ErrTermShort},
		{behind(row(2, 0), row(0)), api.ErrTermShort},
		{behind(row(0), row(3)), api.ErrTermCode},
		{behind(row(0), row(0, 0)), api.ErrTermMore},
		{behind(tower(api.MaxNodes+1, 0), row(0)), api.ErrTooBig},
		{behind(row(0), tower(api.MaxNodes+1, 0)), api.ErrTooBig},
		{behind(row(-1), row(0)), api.ErrSystemVar},
		{behind(row(1, -1), row(-2)), api.ErrSystemFree},
	}
}

// partAt is the term at a place.
func partAt(sig []api.Symbol, t []int, at int) []int {
	missing, end := 1, at
	for missing > 0 {
		missing--
		if t[end] >= 0 {
			missing += sig[t[end]].Arity
		}
		end++
	}
	return t[at:end]
}

// plainBinds goes through a left side and a term side by side: a variable takes the term that it comes to.
func plainBinds(sig []api.Symbol, l, part []int) ([]api.Bind, bool) {
	var binds []api.Bind
	place := 0
	for _, code := range l {
		here := partAt(sig, part, place)
		i := slices.IndexFunc(binds, func(b api.Bind) bool { return b.Var == -1-code })
		switch {
		case code >= 0 && here[0] != code, code < 0 && i >= 0 && !slices.Equal(binds[i].T, here):
			return nil, false
		case code >= 0:
			place++
		default:
			binds = append(binds, bind(-1-code, here...))
			place += len(here)
		}
	}
	return binds, true
}

// made is what binds make of a term, of any size.
func made(s []api.Bind, t []int) []int {
	var l []int
	for _, code := range t {
		i := slices.IndexFunc(s, func(b api.Bind) bool { return b.Var == -1-code })
		if code < 0 && i >= 0 {
			l = append(l, s[i].T...)
		} else {
			l = append(l, code)
		}
	}
	return l
}

// plainAll tries each rule at each place.
func plainAll(s api.System, t []int) []api.Redex {
	var l []api.Redex
	for at := range t {
		for i, r := range s.Rules {
			if _, ok := plainBinds(s.Sig, r.L, partAt(s.Sig, t, at)); ok {
				l = append(l, redex(at, i))
			}
		}
	}
	return l
}

// plainFirst is the first of all redexes below which there is none.
func plainFirst(s api.System, t []int) (api.Redex, bool) {
	l := plainAll(s, t)
	for _, r := range l {
		below := func(other api.Redex) bool {
			return r.At < other.At && other.At < r.At+len(partAt(s.Sig, t, r.At))
		}
		if !slices.ContainsFunc(l, below) {
			return r, true
		}
	}
	return api.Redex{}, false
}

// plainDo rewrites a redex, to a term of any size, or tells why it can't.
func plainDo(s api.System, t []int, r api.Redex) ([]int, api.Errno) {
	if r.At < 0 || r.At >= len(t) {
		return nil, api.ErrTermPlace
	}
	if r.Rule < 0 || r.Rule >= len(s.Rules) {
		return nil, api.ErrArg
	}
	part := partAt(s.Sig, t, r.At)
	binds, ok := plainBinds(s.Sig, s.Rules[r.Rule].L, part)
	if !ok {
		return nil, api.ErrStepNone
	}
	return slices.Concat(t[:r.At], made(binds, s.Rules[r.Rule].R), t[r.At+len(part):]), api.OK
}

// plainWalk lays the whole beginning of the path first, its terms and its redexes, and asks how big they are only then; a term so big that no step could be seen of it ends it.
func plainWalk(s api.System, t []int, most int) (api.Walk, api.Errno) {
	terms := [][]int{t}
	var w api.Walk
	for len(w.Steps) < most && len(terms[len(terms)-1]) <= 2*api.MaxNodes {
		r, found := plainFirst(s, terms[len(terms)-1])
		if !found {
			break
		}
		u, _ := plainDo(s, terms[len(terms)-1], r)
		w.Steps, terms = append(w.Steps, r), append(terms, u)
	}
	if slices.ContainsFunc(terms, func(u []int) bool { return len(u) > api.MaxNodes }) {
		return api.Walk{}, api.ErrTooBig
	}
	w.End = terms[len(terms)-1]
	w.Normal = len(plainAll(s, w.End)) == 0
	return w, api.OK
}

// plainAlong is asked of a term that is not too big.
func plainAlong(s api.System, t []int, l []api.Redex) ([]int, api.Errno, int) {
	for i, r := range l {
		u, e := plainDo(s, t, r)
		if len(u) > api.MaxNodes {
			e = api.ErrTooBig
		}
		if e != api.OK {
			return nil, e, i
		}
		t = u
	}
	return t, api.OK, 0
}

// walks holds what Walk answers, where it goes; stays where it does not.
func walks(t *testing.T, s api.System, u []int, most int, want api.Walk) {
	t.Helper()
	got, e := Walk(s, u, most)
	if e != api.OK || !sameWalk(got, want) {
		t.Errorf("Walk(%v, %v, %d): %v, %v, want %v", s, u, most, got, e, want)
	}
}

func stays(t *testing.T, s api.System, u []int, most int, want api.Errno) {
	t.Helper()
	if got, e := Walk(s, u, most); e != want || len(got.Steps) > 0 || len(got.End) > 0 || got.Normal {
		t.Errorf("Walk(%v, %v, %d): %v, %v, want %v", s, u, most, got, e, want)
	}
}

func sameWalk(a, b api.Walk) bool {
	return slices.Equal(a.Steps, b.Steps) && slices.Equal(a.End, b.End) && a.Normal == b.Normal
}

// leads holds what Along answers, where all can be done; stops where one of them can't.
func leads(t *testing.T, s api.System, u []int, l []api.Redex, want ...int) {
	t.Helper()
	if got, e, n := Along(s, u, l); e != api.OK || n != 0 || !slices.Equal(got, want) {
		t.Errorf("Along(%v, %v, %v): %v, %v, %d, want %v", s, u, l, got, e, n, want)
	}
}

func stops(t *testing.T, s api.System, u []int, l []api.Redex, want api.Errno, number int) {
	t.Helper()
	if got, e, n := Along(s, u, l); e != want || n != number || len(got) > 0 {
		t.Errorf("Along(%v, %v, %v): %v, %v, %d, want %v, %d", s, u, l, got, e, n, want, number)
	}
}

// random draws the same numbers in each run.
type random uint64

func (r *random) below(n int) int {
	*r = *r*6364136223846793005 + 1442695040888963407
	return int(*r>>33) % n
}

// variables are those of drawn terms, the greatest among them; so few that a rule often has one twice.
func variables() []int { return []int{0, 1, 77, api.MaxVar - 1} }

// term draws a term over all, of at most about so many nodes; what stands at its ends is drawn by leaf.
func (r *random) term(nodes int, leaf func() []int) []int {
	if nodes <= 1 {
		return leaf()
	}
	arity := r.below(api.MaxArity + 1)
	t := row(arity)
	for range arity {
		t = append(t, r.term(nodes/arity-r.below(2), leaf)...)
	}
	return t
}

// leafOf draws a variable of a list, now and then the symbol without arguments.
func (r *random) leafOf(vars []int) func() []int {
	return func() []int {
		if r.below(4) == 0 || len(vars) == 0 {
			return row(0)
		}
		return row(-1 - vars[r.below(len(vars))])
	}
}

// rule draws a right rule over all.
func (r *random) rule() api.Rule {
	l := r.term(2+r.below(10), r.leafOf(variables()))
	var vars []int
	for _, code := range l {
		if code < 0 {
			vars = append(vars, -1-code)
		}
	}
	return rule(l, r.term(1+r.below(6), r.leafOf(vars)))
}

// system draws a right system over all.
func (r *random) system() api.System {
	s := api.System{Sig: all()}
	for range r.below(8) {
		s.Rules = append(s.Rules, r.rule())
	}
	return s
}

// subject draws a term in which left sides of a system stand, with binds, and left sides within these; great ones, which are slow to look through, are drawn anew.
func (r *random) subject(s api.System) []int {
	for {
		if u := r.nested(s, 1+r.below(12), 2); len(u) <= 100 {
			return u
		}
	}
}

// nested has left sides within left sides as often as depth tells.
func (r *random) nested(s api.System, nodes, depth int) []int {
	return r.term(nodes, func() []int {
		if depth == 0 || len(s.Rules) == 0 || r.below(3) == 0 {
			return r.leafOf(variables())()
		}
		var binds []api.Bind
		for _, v := range variables() {
			binds = append(binds, bind(v, r.nested(s, 1+r.below(3), depth-1)...))
		}
		return made(binds, s.Rules[r.below(len(s.Rules))].L)
	})
}

// eachSubject hands out systems with terms: all small ones, and drawn ones.
func eachSubject(seed random, nodes int, hold func(s api.System, u []int)) {
	for _, s := range smallSystems() {
		for _, u := range smallTerms(nodes, 2) {
			hold(s, u)
		}
	}
	r := seed
	for range 200 {
		s := r.system()
		hold(s, r.subject(s))
	}
}
