package unify

import (
	"slices"

	"lodestone/api"
)

// class holds terms that must become the same one.
type class struct {
	into    *class // the class that has taken this one in
	members int
	face    tree // an application, if one is a member; else the variable of the least number
	nodes   int  // of what its members become, or one of the words below; never told beyond MaxNodes + 1
}

const (
	notCounted = 0
	inCount    = -1
)

func newClass(t tree) *class { return &class{members: 1, face: t} }

// whole is the class that has all members of this one. The way to it is made shorter for whoever asks next.
func (c *class) whole() *class {
	for c.into != nil {
		if c.into.into != nil {
			c.into = c.into.into
		}
		c = c.into
	}
	return c
}

// take makes one class of two whole ones; the small one goes into the great one, so no way to a whole class gets long.
func (c *class) take(d *class) {
	if c.members < d.members {
		c, d = d, c
	}
	d.into = c
	c.members += d.members
	c.face = faceOf(c.face, d.face)
}

func faceOf(a, b tree) tree {
	v, ok := a.(*variable)
	if !ok {
		return a
	}
	if w, ok := b.(*variable); ok && v.number < w.number {
		return a
	}
	return b
}

// is tells whether all of a class becomes the variable of that number.
func (c *class) is(number int) bool {
	v, ok := c.face.(*variable)
	return ok && v.number == number
}

// pair is two terms that must become the same.
type pair struct{ a, b tree }

// join makes one class of two terms' ones, and of what must become the same then. Two that are in one class are looked at no more; so there are no more looks than nodes, by however many ways a pair is come to.
func join(a, b tree) bool {
	open := []pair{{a, b}}
	for len(open) > 0 {
		next := open[len(open)-1]
		open = open[:len(open)-1]
		c, d := next.a.class(), next.b.class()
		if c == d {
			continue
		}
		below, ok := argumentPairs(c.face, d.face)
		if !ok {
			return false
		}
		c.take(d)
		open = append(open, below...)
	}
	return true
}

// argumentPairs are what must become the same if two terms must; none, if one of them is a variable, which may become anything.
func argumentPairs(a, b tree) ([]pair, bool) {
	if isVariable(a) || isVariable(b) {
		return nil, true
	}
	f, g := a.(*application), b.(*application)
	if f.symbol != g.symbol {
		return nil, false
	}
	var pairs []pair
	for i, arg := range f.args {
		pairs = append(pairs, pair{arg, g.args[i]})
	}
	return pairs, true
}

func isVariable(t tree) bool {
	_, ok := t.(*variable)
	return ok
}

// count finds how many nodes there are in what each class becomes, from this one down; false, if a class would have itself as a part. A class is counted once, by however many ways it is come to, and the list of open ones is in the place of a deep stack.
func count(c *class) bool {
	open := []*class{c}
	for len(open) > 0 {
		next := open[len(open)-1]
		if next.nodes != notCounted {
			open = open[:len(open)-1]
			next.finish()
			continue
		}
		next.nodes = inCount
		for _, part := range next.parts() {
			if part.nodes == inCount {
				return false
			}
			open = append(open, part)
		}
	}
	return true
}

// finish counts the nodes of a class whose parts are counted. The sum is cut off, as it may double with each class.
func (c *class) finish() {
	if c.nodes != inCount {
		return
	}
	c.nodes = 1
	for _, part := range c.parts() {
		c.nodes = min(c.nodes+part.nodes, api.MaxNodes+1)
	}
}

// parts are the classes of the arguments.
func (c *class) parts() []*class {
	if isVariable(c.face) {
		return nil
	}
	var l []*class
	for _, arg := range c.face.(*application).args {
		l = append(l, arg.class())
	}
	return l
}

// row writes out what a class becomes, which may not be too big.
func (c *class) row() []int {
	var row []int
	open := []*class{c}
	for len(open) > 0 {
		next := open[len(open)-1]
		open = open[:len(open)-1]
		if v, ok := next.face.(*variable); ok {
			row = append(row, -1-v.number)
			continue
		}
		row = append(row, next.face.(*application).symbol)
		parts := next.parts()
		slices.Reverse(parts)
		open = append(open, parts...)
	}
	return row
}
