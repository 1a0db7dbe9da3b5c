package join

import (
	"slices"
	"testing"

	"lodestone/api"
	"lodestone/norm"
)

func sym(name string, arity int) api.Symbol { return api.Symbol{Name: name, Arity: arity} }

func row(codes ...int) []int { return codes }

func rule(l, r []int) api.Rule { return api.Rule{L: l, R: r} }

// times has so many codes of one kind; high is code of code .. of end, with n nodes in all.
func times(n, code int) []int { return slices.Repeat(row(code), n) }

func high(n, code, end int) []int { return append(times(n-1, code), end) }

// paths is the certificate by a precedence.
func paths(l ...[2]int) []api.Node { return []api.Node{{Kind: api.CertLpo, Prec: l}} }

// built is the Norm of a system whose certificate is to be accepted.
func built(t *testing.T, c certified) *norm.Norm {
	t.Helper()
	n, e := norm.New(c.s, c.l)
	if e != api.OK || n == nil {
		t.Fatalf("New(%v, %v): %v", c.s, c.l, e)
	}
	return n
}

// reported is the report of a system, which there is to be.
func reported(t *testing.T, c certified) []api.Joint {
	t.Helper()
	l, e := Report(built(t, c))
	if e != api.OK {
		t.Fatalf("Report of %v: %v", c.s, e)
	}
	return l
}

// has holds which report a system has, and hasNot which error.
func has(t *testing.T, c certified, want ...api.Joint) {
	t.Helper()
	if got := reported(t, c); !slices.EqualFunc(got, want, sameJoint) {
		t.Fatalf("Report of %v:\n%v, want\n%v", c.s, got, want)
	}
}

func hasNot(t *testing.T, c certified, want api.Errno) {
	t.Helper()
	if l, e := Report(built(t, c)); e != want || len(l) > 0 {
		t.Fatalf("Report of %v: %d joints, %v, want %v", c.s, len(l), e, want)
	}
}

// whole holds what Confluent says of a system's report.
func whole(t *testing.T, c certified, want bool) {
	t.Helper()
	if l := reported(t, c); Confluent(l) != want {
		t.Fatalf("%v: Confluent(%v) is not %v", c.s, l, want)
	}
}

// meets, parts and tooBig are a joint of a pair whose sides come to one term, to two, and of which there is none.
func meets(pair api.Critical, end ...int) api.Joint {
	return api.Joint{Pair: pair, Left: end, Right: end, Joined: true}
}

func parts(pair api.Critical, left, right []int) api.Joint {
	return api.Joint{Pair: pair, Left: left, Right: right}
}

func tooBig(pair api.Critical) api.Joint { return api.Joint{Pair: pair, Code: api.ErrTooBig} }

func sameCritical(a, b api.Critical) bool {
	return a.Outer == b.Outer && a.Inner == b.Inner && a.At == b.At && a.Spot == b.Spot && a.Code == b.Code &&
		slices.Equal(a.Peak, b.Peak) && slices.Equal(a.L, b.L) && slices.Equal(a.R, b.R)
}

func sameJoint(a, b api.Joint) bool {
	return sameCritical(a.Pair, b.Pair) && slices.Equal(a.Left, b.Left) && slices.Equal(a.Right, b.Right) &&
		a.Joined == b.Joined && a.Code == b.Code
}

// isTooBig tells whether one of a report is.
func isTooBig(l []api.Joint) bool {
	return slices.ContainsFunc(l, func(j api.Joint) bool { return j.Code != api.OK })
}
