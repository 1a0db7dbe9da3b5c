package join

import (
	"slices"
	"testing"

	"lodestone/api"
	"lodestone/norm"
)

// spoil writes over all of a list's memory, its spare room too.
func spoil(l []int) {
	l = l[:cap(l)]
	for i := range l {
		l[i] = 1 << 40
	}
}

// rowsOf are all rows of a report.
func rowsOf(l []api.Joint) [][]int {
	var rows [][]int
	for _, j := range l {
		rows = append(rows, j.Pair.Peak, j.Pair.L, j.Pair.R, j.Left, j.Right)
	}
	return rows
}

// copied are joints in memory of their own.
func copied(l []api.Joint) []api.Joint {
	var out []api.Joint
	for _, j := range l {
		j.Pair.Peak, j.Pair.L, j.Pair.R = slices.Clone(j.Pair.Peak), slices.Clone(j.Pair.L), slices.Clone(j.Pair.R)
		j.Left, j.Right = slices.Clone(j.Left), slices.Clone(j.Right)
		out = append(out, j)
	}
	return out
}

// again holds that a Norm answers as a new one of the same system does.
func again(t *testing.T, n *norm.Norm, c certified, u []int) {
	t.Helper()
	if s := n.System(); !sameSystem(s, c.s) {
		t.Fatalf("%v has become %v", c.s, s)
	}
	want, f := built(t, c).Normal(u)
	if got, e := n.Normal(u); e != f || !slices.Equal(got, want) {
		t.Fatalf("%v: Normal(%v): %v, %v, want %v, %v", c.s, u, got, e, want, f)
	}
}

// sameSystem holds systems against each other, rows and all.
func sameSystem(a, b api.System) bool {
	return slices.Equal(a.Sig, b.Sig) && slices.EqualFunc(a.Rules, b.Rules, func(x, y api.Rule) bool {
		return slices.Equal(x.L, y.L) && slices.Equal(x.R, y.R)
	})
}

// TestNormStays: a report changes nothing of the Norm of which it is, and is not kept in it.
func TestNormStays(t *testing.T) { // R5, R6
	hold := func(r *random, c certified) {
		n := built(t, c)
		u := r.subject(c.s)
		for !isShort(c.s, u) {
			u = r.subject(c.s)
		}
		one, e := Report(n)
		again(t, n, c, u)
		was := copied(one)
		for _, rows := range rowsOf(one) {
			spoil(rows)
		}
		clear(one[:cap(one)])
		again(t, n, c, u)
		two, f := Report(n)
		if e != f || !slices.EqualFunc(two, was, sameJoint) {
			t.Fatalf("%v: %v, %v, and ahead %v, %v", c.s, two, f, was, e)
		}
	}
	r := random(11)
	for _, c := range slices.Concat(joinedSystems(), partedSystems()) {
		hold(&r, c)
	}
	eachDrawn(12, 60, hold)
}

// TestAnswersAreNew spoils one row of a report after the other, and holds that no other row, and no other report, has changed.
func TestAnswersAreNew(t *testing.T) { // R5
	n, same := 0, 0
	hold := func(_ *random, c certified) {
		own := built(t, c)
		l, _ := Report(own)
		other, _ := Report(own)
		want := copied(l)
		rows, wanted := rowsOf(l), rowsOf(want)
		for i := range rows {
			if !slices.Equal(rows[i], wanted[i]) {
				t.Fatalf("%v: the row %d shares its memory: %v, was %v", c.s, i, rows[i], wanted[i])
			}
			spoil(rows[i])
			n++
		}
		clear(l[:cap(l)])
		if !slices.EqualFunc(other, want, sameJoint) {
			t.Fatalf("%v: two reports share memory", c.s)
		}
		for _, j := range want {
			if j.Joined && slices.Equal(j.Left, j.Pair.L) && slices.Equal(j.Right, j.Pair.R) {
				same++
			}
		}
	}
	r := random(13)
	for _, c := range slices.Concat(joinedSystems(), partedSystems()) {
		hold(&r, c)
	}
	hold(&r, singles(1, 20))
	eachDrawn(14, 60, hold)
	if n < 1000 || same < 10 {
		t.Errorf("only %d rows, %d pairs of normal forms", n, same)
	}
}

// in is a copy of a list with items behind its length that nobody may read or change.
func in[T any](l []T, behind ...T) []T {
	return append(slices.Clone(l), behind...)[:len(l)]
}

// TestListsStay: Confluent changes nothing, and does not read what stands behind a list.
func TestListsStay(t *testing.T) { // R5
	joined, apart := meets(fff(), 1, 0, -1), parts(fff(), row(0, 1, -1), row(1, 0, -1))
	for _, was := range [][]api.Joint{{}, {joined}, {apart}, {joined, joined}, {joined, apart}, {apart, tooBig(fff()), joined}} {
		for _, behind := range []api.Joint{joined, apart} {
			l := in(copied(was), behind, api.Joint{})
			want := !slices.ContainsFunc(was, func(j api.Joint) bool { return !j.Joined })
			confluent(t, want, l...)
			rest := slices.Concat(was, []api.Joint{behind, {}})
			if !slices.EqualFunc(l[:len(was)+2], rest, sameJoint) {
				t.Fatalf("%v has become %v", was, l)
			}
		}
	}
	for _, c := range slices.Concat(joinedSystems(), partedSystems()) {
		l := reported(t, c)
		was := copied(l)
		Confluent(l)
		if !slices.EqualFunc(l, was, sameJoint) {
			t.Fatalf("%v has become %v", was, l)
		}
	}
}

// TestWrittenLater: what is written into the system when there is a Norm is not to be seen in its report.
func TestWrittenLater(t *testing.T) { // R5
	c := completedLetters()
	n := built(t, c)
	was := plainReport(c.s)
	for _, a := range c.s.Rules {
		spoil(a.L)
		spoil(a.R)
	}
	clear(c.s.Sig)
	if l, e := Report(n); e != api.OK || !slices.EqualFunc(l, was, sameJoint) {
		t.Errorf("%v, %v, want %v", l, e, was)
	}
}

// TestNormsKnowNothingOfOneAnother: reports of several in turn are those that they have alone.
func TestNormsKnowNothingOfOneAnother(t *testing.T) { // R6
	systems := slices.Concat(joinedSystems(), partedSystems())
	var norms []*norm.Norm
	for _, c := range systems {
		norms = append(norms, built(t, c))
	}
	for range 3 {
		for i, n := range norms {
			if l, e := Report(n); e != api.OK || !slices.EqualFunc(l, plainReport(systems[i].s), sameJoint) {
				t.Fatalf("%d: %v, %v", i, l, e)
			}
		}
	}
	big := singles(5, 511, 511, 511, 511, 10)
	hasNot(t, big, api.ErrTooBig)
	has(t, letters(), parts(fff(), row(0, 1, -1), row(1, 0, -1)))
}
