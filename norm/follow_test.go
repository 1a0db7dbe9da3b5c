package norm

import (
	"slices"
	"testing"

	"lodestone/api"
	"lodestone/step"
	"lodestone/walk"
)

// TestNormalForms: what Normal answers has no redex, and no variable of its own; it is its own normal form, and a walk that comes to an end comes to it.
func TestNormalForms(t *testing.T) { // P16.4
	held := 0
	eachSubject(t, 4, 600, func(n *Norm, s api.System, u []int) {
		if !isShort(s, u, 200) {
			return
		}
		end, e := n.Normal(u)
		w, f := walk.Walk(s, u, api.MaxPath)
		if e != f || e == api.OK && (!w.Normal || !slices.Equal(end, w.End)) {
			t.Fatalf("%v: Normal(%v): %v, %v, and the walk: %v, %v", s, u, end, e, w, f)
		}
		if e != api.OK {
			return
		}
		held++
		if l := step.All(s, end); len(l) > 0 || len(plainAll(s, end)) > 0 {
			t.Fatalf("%v: Normal(%v): %v, which has redexes: %v", s, u, end, l)
		}
		if slices.ContainsFunc(end, func(code int) bool { return code < 0 && !slices.Contains(u, code) }) {
			t.Fatalf("%v: Normal(%v): %v, with a variable of its own", s, u, end)
		}
		becomes(t, n, end, end...)
	})
	if held < 2500 {
		t.Errorf("only %d", held)
	}
}

// TestFromWithin: a term becomes what it becomes when its arguments are brought down ahead. (They need not be too big by themselves, where they are with what stands around them.)
func TestFromWithin(t *testing.T) { // P16.5
	held, changed, big := 0, 0, 0
	eachSubject(t, 5, 600, func(n *Norm, s api.System, u []int) {
		if !isShort(s, u, 200) {
			return
		}
		end, e := n.Normal(u)
		within := row(u[0])
		for _, kid := range kidsOf(s.Sig, u) {
			down, f := n.Normal(kid)
			if f != api.OK {
				stays(t, n, u, f)
				big++
				return
			}
			within = append(within, down...)
		}
		if e != api.OK {
			return
		}
		held++
		if !slices.Equal(within, u) {
			changed++
		}
		becomes(t, n, within, end...)
	})
	if held < 2500 || changed < 500 || big < 3 {
		t.Errorf("only %d, of which %d had something within, and %d were too big", held, changed, big)
	}
}

// TestBySteps: where all critical pairs are joined, any step at any place, and any row of them, leads to what has the same normal form.
func TestBySteps(t *testing.T) { // P16.6
	r := random(6)
	for i, c := range joinedSystems() {
		n := built(t, c.s, c.l)
		steps, choices := 0, 0
		for range 150 {
			u := r.subject(c.s)
			if !isShort(c.s, u, 200) {
				continue
			}
			end, e := n.Normal(u)
			for range 5 {
				l := step.All(c.s, u)
				if e != api.OK || len(l) == 0 {
					break
				}
				if len(l) > 1 {
					choices++
				}
				for _, redex := range l {
					steps++
					holdStep(t, n, u, redex, end)
				}
				if next, f := step.Do(c.s, u, l[r.below(len(l))]); f == api.OK {
					u = next
				}
			}
		}
		if steps < 100 || choices < 30 {
			t.Errorf("the system %d: only %d steps, %d terms with several redexes", i, steps, choices)
		}
	}
}

// holdStep holds that by a step a term becomes what has this normal form, as far as nothing is too big.
func holdStep(t *testing.T, n *Norm, u []int, r api.Redex, end []int) {
	t.Helper()
	next, e := step.Do(n.System(), u, r)
	if e == api.ErrTooBig || e == api.OK && !isShort(n.System(), next, 300) {
		return
	}
	if e != api.OK {
		t.Fatalf("%v: the step %v of %v: %v", n.System(), r, u, e)
	}
	if got, f := n.Normal(next); f != api.ErrTooBig && (f != api.OK || !slices.Equal(got, end)) {
		t.Fatalf("%v: %v has %v, but by %v it is %v, which has %v, %v", n.System(), u, end, r, next, got, f)
	}
}

// TestNotJoined: where a critical pair is not joined, a step may lead elsewhere: Normal goes by the innermost path all the same.
func TestNotJoined(t *testing.T) { // P16.2
	s := api.System{Sig: letters().s.Sig, Rules: letters().s.Rules[:1]}
	n := built(t, s, letters().l)
	becomes(t, n, row(0, 0, 0, -1), 0, 1, -1)
	becomes(t, n, row(1, 0, -1), 1, 0, -1) // by a step at the root
	c := letters()
	n = built(t, c.s, c.l)
	becomes(t, n, row(0, 0, 0, -1), 1, 0, -1)
	becomes(t, n, row(0, 0, 0, 0, 0, 0, 0, -1), 1, 1, 1, 0, -1)
}

// TestGroups holds terms over e, i and m against the word of letters and inverse ones that they are, in which no letter stands beside its inverse.
func TestGroups(t *testing.T) { // P16.2, P16.6
	c := groups()
	n := built(t, c.s, c.l)
	r := random(7)
	long, held := 0, 0
	for range 600 {
		u := r.product(1 + r.below(40))
		end, e := n.Normal(u)
		if e != api.OK {
			continue
		}
		held++
		l := wordOf(u)
		if len(l) > 3 {
			long++
		}
		if want := termOf(l); !slices.Equal(end, want) {
			t.Fatalf("Normal(%v): %v, want %v", u, end, want)
		}
	}
	if held < 500 || long < 200 {
		t.Errorf("only %d, and %d words of more than three letters", held, long)
	}
}

// product draws a term over e, i and m of at most so many nodes, of three variables.
func (r *random) product(nodes int) []int {
	switch {
	case nodes <= 1 || r.below(20) == 0:
		return row(row(0, -1, -1, -2, -2, -api.MaxVar, -api.MaxVar)[r.below(7)])
	case r.below(3) == 0:
		return append(row(1), r.product(nodes-1)...)
	}
	return slices.Concat(row(2), r.product(nodes/2), r.product(nodes/2))
}

// wordOf are the letters of a term over e, i and m: a variable's code, below 0, or, of its inverse, the number without the sign.
func wordOf(t []int) []int {
	kids := kidsOf(groups().s.Sig, t)
	switch {
	case t[0] < 0:
		return t
	case t[0] == 0:
		return nil
	case t[0] == 1:
		l := slices.Clone(wordOf(kids[0]))
		slices.Reverse(l)
		for i := range l {
			l[i] = -l[i]
		}
		return l
	}
	l := slices.Clone(wordOf(kids[0]))
	for _, letter := range wordOf(kids[1]) {
		if len(l) > 0 && l[len(l)-1] == -letter {
			l = l[:len(l)-1]
		} else {
			l = append(l, letter)
		}
	}
	return l
}

// termOf is the term of a word: each letter but the last one stands left in an m.
func termOf(l []int) []int {
	if len(l) == 0 {
		return row(0)
	}
	var t []int
	for i, letter := range l {
		if i < len(l)-1 {
			t = append(t, 2)
		}
		if letter > 0 {
			t = append(t, 1)
		}
		t = append(t, min(letter, -letter))
	}
	return t
}
