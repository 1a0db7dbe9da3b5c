package term

import (
	"fmt"
	"math"
	"slices"
	"testing"

	"lodestone/api"
)

func TestCheckExamples(t *testing.T) { // P3.2
	for _, x := range []struct {
		t    []int
		want api.Errno
	}{
		{row(2, 1, -1, -2), api.OK},
		{row(), api.ErrTermShort},
		{row(2, 0), api.ErrTermShort},
		{row(0, 0), api.ErrTermMore},
		{row(3), api.ErrTermCode},
		{row(-1), api.OK},
		{row(-1048576), api.OK},
		{row(-1048577), api.ErrTermCode},
	} {
		if e := Check(three(), x.t); e != x.want {
			t.Errorf("Check(%v): %v, want %v", x.t, e, x.want)
		}
	}
}

func TestCheckTakes(t *testing.T) { // P3.2
	for _, u := range smallTerms(7) {
		if e := Check(three(), u); e != api.OK {
			t.Errorf("Check(%v): %v", u, e)
		}
	}
	for _, u := range someTerms() {
		if e := Check(all(), u); e != api.OK {
			t.Errorf("Check(%v): %v", u, e)
		}
	}
	for _, n := range []int{1, 2, 512, 513, 5000, 1 << 16} {
		if e := Check(three(), tower(n, 0)); e != api.OK {
			t.Errorf("%d nodes: %v", n, e)
		}
	}
	if e := Check(nil, row(-1)); e != api.OK {
		t.Errorf("a variable, without symbols: %v", e)
	}
}

func TestCheckRefuses(t *testing.T) { // P3.2
	for want, rows := range badRows() {
		for _, u := range rows {
			if e := Check(three(), u); e != want {
				t.Errorf("Check(%v): %v, want %v", u, e, want)
			}
		}
	}
	if e := Check(nil, row(0)); e != api.ErrTermCode {
		t.Errorf("a code, without symbols: %v", e)
	}
	if e := Check(nil, nil); e != api.ErrTermShort {
		t.Errorf("nothing at all: %v", e)
	}
}

// TestCheckRows holds all rows of up to 5 codes against what the definition takes.
func TestCheckRows(t *testing.T) { // P3.2
	right := map[string]int{}
	for _, u := range smallTerms(5) {
		right[fmt.Sprint(u)] = 1
	}
	var each func(u []int)
	each = func(u []int) {
		if len(u) > 5 {
			return
		}
		want := checkByWords(u)
		if e := Check(three(), u); e != want || (e == api.OK) != (right[fmt.Sprint(u)] == 1) {
			t.Errorf("Check(%v): %v, want %v", u, e, want)
		}
		for code := -2; code <= 3; code++ {
			each(append(slices.Clone(u), code))
		}
	}
	each(nil)
}

// checkByWords says the error of a row over three as the definition of a term reads, part in part.
func checkByWords(u []int) api.Errno {
	var read func() api.Errno
	read = func() api.Errno {
		if len(u) == 0 {
			return api.ErrTermShort
		}
		code := u[0]
		u = u[1:]
		if code > 2 {
			return api.ErrTermCode
		}
		for range max(code, 0) {
			if e := read(); e != api.OK {
				return e
			}
		}
		return api.OK
	}
	e := read()
	if e == api.OK && len(u) > 0 {
		return api.ErrTermMore
	}
	return e
}

// TestTermsOverBadSigs holds that a signature is looked at ahead of the terms, and these ahead of the place.
func TestTermsOverBadSigs(t *testing.T) { // P3.2, P3.3, P3.4, R3
	for want, sig := range badSigs() {
		for _, u := range [][]int{nil, {0}, {2, 1, -1, -2}, {0, 0}, {500}, {-api.MaxVar - 1}} {
			if e := Check(sig, u); e != want {
				t.Errorf("Check(%v): %v, want %v", u, e, want)
			}
			for name, do := range calls(u) {
				for _, at := range []int{0, -1, 99} {
					if l, e := do(sig, u, at); e != want || len(l) > 0 {
						t.Errorf("%s(%v, %d): %v, %v, want %v", name, u, at, l, e, want)
					}
				}
			}
		}
	}
}

func TestPlacesOfNoTerms(t *testing.T) { // P3.3, P3.4, R3
	for want, rows := range badRows() {
		for _, u := range rows {
			for name, do := range calls(row(3)) {
				for _, at := range []int{0, 1, -1, 99, math.MinInt, math.MaxInt} {
					if l, e := do(three(), u, at); e != want || len(l) > 0 {
						t.Errorf("%s(%v, %d): %v, %v, want %v", name, u, at, l, e, want)
					}
				}
			}
		}
	}
}

func TestNoPlaces(t *testing.T) { // P3.3, P3.4
	for _, u := range [][]int{{0}, {-1}, {2, 1, -1, -2}, tower(512, 0), tower(5000, -1)} {
		for name, do := range calls(row(0)) {
			for _, at := range []int{-1, -2, -len(u), len(u), len(u) + 1, math.MinInt, math.MaxInt} {
				if l, e := do(three(), u, at); e != api.ErrTermPlace || len(l) > 0 {
					t.Errorf("%s of %d nodes at %d: %v, %v", name, len(u), at, l, e)
				}
			}
		}
	}
}

func TestPlacesExamples(t *testing.T) { // P3.3
	u := row(2, 1, -1, -2)
	for _, x := range []struct {
		at               int
		kids, sub, above []int
	}{
		{0, row(1, 3), u, nil},
		{1, row(2), row(1, -1), row(0)},
		{2, nil, row(-1), row(0, 1)},
		{3, nil, row(-2), row(0)},
	} {
		if l, e := Kids(three(), u, x.at); e != api.OK || !slices.Equal(l, x.kids) {
			t.Errorf("Kids at %d: %v, %v", x.at, l, e)
		}
		if l, e := Sub(three(), u, x.at); e != api.OK || !slices.Equal(l, x.sub) {
			t.Errorf("Sub at %d: %v, %v", x.at, l, e)
		}
		if l, e := Above(three(), u, x.at); e != api.OK || !slices.Equal(l, x.above) {
			t.Errorf("Above at %d: %v, %v", x.at, l, e)
		}
	}
}

// TestPlaces holds each place of many terms against where the definition says that its term ends.
func TestPlaces(t *testing.T) { // P3.3
	hold := func(sig []api.Symbol, u []int) {
		ends := spans(sig, u)
		for at := range u {
			if l, e := Kids(sig, u, at); e != api.OK || !slices.Equal(l, kids(ends, at)) {
				t.Errorf("Kids(%v, %d): %v, %v", u, at, l, e)
			}
			if l, e := Sub(sig, u, at); e != api.OK || !slices.Equal(l, u[at:ends[at]]) {
				t.Errorf("Sub(%v, %d): %v, %v", u, at, l, e)
			}
			if l, e := Above(sig, u, at); e != api.OK || !slices.Equal(l, above(ends, at)) {
				t.Errorf("Above(%v, %d): %v, %v", u, at, l, e)
			}
		}
	}
	for _, u := range smallTerms(6) {
		hold(three(), u)
	}
	for _, u := range someTerms() {
		hold(all(), u)
	}
}

func TestPlacesAlone(t *testing.T) { // P3.3
	for _, u := range [][]int{{0}, {-1}, {-api.MaxVar}} {
		k, e := Kids(three(), u, 0)
		s, f := Sub(three(), u, 0)
		a, g := Above(three(), u, 0)
		if e+f+g != api.OK || len(k) > 0 || !slices.Equal(s, u) || len(a) > 0 {
			t.Errorf("%v: %v %v, %v %v, %v %v", u, k, e, s, f, a, g)
		}
	}
	if l, e := Kids(nil, row(-3), 0); e != api.OK || len(l) > 0 {
		t.Errorf("a variable, without symbols: %v, %v", l, e)
	}
}

// TestDeep holds terms that are greater than MaxNodes: how many nodes they have is not looked at.
func TestDeep(t *testing.T) { // P3.3
	const n = 1 << 16
	u := tower(n, -1)
	if l, e := Kids(three(), u, n-2); e != api.OK || !slices.Equal(l, row(n-1)) {
		t.Errorf("Kids: %v, %v", l, e)
	}
	if l, e := Kids(three(), u, 0); e != api.OK || !slices.Equal(l, row(1)) {
		t.Errorf("Kids of the root: %v, %v", l, e)
	}
	if l, e := Sub(three(), u, 7); e != api.OK || !slices.Equal(l, u[7:]) {
		t.Errorf("Sub: %d nodes, %v", len(l), e)
	}
	l, e := Above(three(), u, n-1)
	if e != api.OK || len(l) != n-1 {
		t.Errorf("Above: %d places, %v", len(l), e)
	}
	for i, at := range l {
		if i != at {
			t.Fatalf("Above: %d in the place of %d", at, i)
		}
	}
	if l, e := Replace(three(), u, 1, row(0)); e != api.OK || !slices.Equal(l, row(1, 0)) {
		t.Errorf("Replace: %v, %v", l, e)
	}
}

func TestReplaceExamples(t *testing.T) { // P3.4
	for i, x := range []struct {
		t    []int
		at   int
		u    []int
		want []int
	}{
		{row(2, 1, -1, -2), 1, row(0), row(2, 0, -2)},
		{row(2, 1, -1, -2), 0, row(0), row(0)},
		{row(2, 1, -1, -2), 2, row(2, 0, 0), row(2, 1, 2, 0, 0, -2)},
		{row(2, 1, -1, -2), 3, row(-1), row(2, 1, -1, -1)},
		{row(-1), 0, row(2, -1, -1), row(2, -1, -1)},
		{row(0), 0, row(-api.MaxVar), row(-api.MaxVar)},
	} {
		if v, e := Replace(three(), x.t, x.at, x.u); e != api.OK || !slices.Equal(v, x.want) {
			t.Errorf("%d: %v, %v, want %v", i, v, e, x.want)
		}
	}
}

func TestReplace(t *testing.T) { // P3.4
	terms := someTerms()
	for i, u := range terms {
		ends := spans(all(), u)
		v := terms[(i+7)%len(terms)]
		for at := range u {
			want := slices.Concat(u[:at], v, u[ends[at]:])
			got, e := Replace(all(), u, at, v)
			if len(want) > api.MaxNodes {
				t.Fatalf("%v with %v: too big for this test", u, v)
			}
			if e != api.OK || !slices.Equal(got, want) || Check(all(), got) != api.OK {
				t.Errorf("Replace(%v, %d, %v): %v, %v", u, at, v, got, e)
			}
		}
	}
}

func TestReplaceAtTheBound(t *testing.T) { // P3.4
	for _, x := range []struct {
		nodes, at, other int
		want             int
	}{
		{512, 511, 1, 512},
		{512, 511, 2, 513},
		{512, 510, 2, 512},
		{512, 0, 512, 512},
		{512, 0, 513, 513},
		{1, 0, 512, 512},
		{1, 0, 513, 513},
		{2, 1, 511, 512},
		{2, 1, 512, 513},
		{300, 212, 300, 512},
		{300, 213, 300, 513},
		{5000, 0, 1, 1},
		{5000, 511, 1, 512},
		{5000, 512, 1, 513},
		{5000, 0, 5000, 5000},
	} {
		v, e := Replace(three(), tower(x.nodes, 0), x.at, tower(x.other, -1))
		if x.want > api.MaxNodes {
			if e != api.ErrTooBig || len(v) > 0 {
				t.Errorf("%v: %d nodes, %v", x, len(v), e)
			}
		} else if e != api.OK || !slices.Equal(v, tower(x.want, -1)) {
			t.Errorf("%v: %d nodes, %v", x, len(v), e)
		}
	}
}

// TestReplaceCountsAll holds that what stands behind the place is counted, too.
func TestReplaceCountsAll(t *testing.T) { // P3.4
	u := slices.Concat(row(2, -1), tower(400, 0))
	if v, e := Replace(three(), u, 1, tower(111, 0)); e != api.OK || len(v) != 512 {
		t.Errorf("512 nodes: %d, %v", len(v), e)
	}
	if v, e := Replace(three(), u, 1, tower(112, 0)); e != api.ErrTooBig || len(v) > 0 {
		t.Errorf("513 nodes: %d, %v", len(v), e)
	}
}

func TestReplaceWhichFirst(t *testing.T) { // P3.4, R2, R3
	for want, rows := range badRows() {
		for _, u := range rows {
			for _, at := range []int{0, 511, -1, 512, math.MaxInt} {
				if v, e := Replace(three(), tower(512, 0), at, u); e != want || len(v) > 0 {
					t.Errorf("at %d, %v: %v, %v, want %v", at, u, v, e, want)
				}
			}
		}
	}
	if v, e := Replace(three(), row(0, 0), 0, row(3)); e != api.ErrTermMore || len(v) > 0 {
		t.Errorf("both are no terms: %v, %v", v, e)
	}
	if v, e := Replace(three(), row(3), 9, row()); e != api.ErrTermCode || len(v) > 0 {
		t.Errorf("both are no terms: %v, %v", v, e)
	}
	if v, e := Replace(three(), row(0), 1, tower(513, 0)); e != api.ErrTermPlace || len(v) > 0 {
		t.Errorf("no place, and too big: %v, %v", v, e)
	}
	if v, e := Replace(three(), tower(600, 0), -1, tower(600, 0)); e != api.ErrTermPlace || len(v) > 0 {
		t.Errorf("no place, and too big: %v, %v", v, e)
	}
}

func TestVars(t *testing.T) { // P3.5
	for _, x := range []struct{ t, want []int }{
		{row(2, -5, 2, -1, -5), row(4, 0)},
		{nil, nil},
		{row(), nil},
		{row(0, 7, 99), nil},
		{row(-1), row(0)},
		{row(-3, -2, -1, -1, -2, -3), row(2, 1, 0)},
		{row(-api.MaxVar, -api.MaxVar-1), row(api.MaxVar-1, api.MaxVar)},
		{row(math.MinInt, math.MaxInt, math.MinInt, -1), row(math.MaxInt, 0)},
		{row(500, -9, 0, 0, -9, 501, -8), row(8, 7)},
	} {
		if v := Vars(x.t); !slices.Equal(v, x.want) {
			t.Errorf("Vars(%v): %v, want %v", x.t, v, x.want)
		}
	}
}

func TestVarsOfLongRows(t *testing.T) { // P3.5
	const n = 1 << 17
	var u, want []int
	for i := range n {
		u = append(u, i, -1-i)
		want = append(want, i)
	}
	if v := Vars(append(u, u...)); !slices.Equal(v, want) {
		t.Errorf("%d variables", len(v))
	}
}
