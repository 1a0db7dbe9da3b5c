package subst

import (
	"math"
	"math/big"
	"slices"
	"testing"

	"lodestone/api"
)

func TestShiftExamples(t *testing.T) { // P4.3
	const top = api.MaxVar - 1
	for _, x := range []struct {
		t    []int
		by   int
		want []int
		e    api.Errno
	}{
		{row(2, -1, -2), 3, row(2, -4, -5), api.OK},
		{row(-4), -3, row(-1), api.OK},
		{row(-3), -3, nil, api.ErrSubstVar},
		{row(2, 0), -9, row(2, 0), api.OK},
		{row(-1), api.MaxVar, nil, api.ErrSubstVar},
		// to the greatest number, and above it; to 0, and below it
		{row(-1), top, row(-api.MaxVar), api.OK},
		{row(-2), top, nil, api.ErrSubstVar},
		{row(-2), top - 1, row(-api.MaxVar), api.OK},
		{row(-api.MaxVar), 0, row(-api.MaxVar), api.OK},
		{row(-api.MaxVar), 1, nil, api.ErrSubstVar},
		{row(-api.MaxVar), -top, row(-1), api.OK},
		{row(-api.MaxVar), -top - 1, nil, api.ErrSubstVar},
		{row(-1), 0, row(-1), api.OK},
		{row(-1), -1, nil, api.ErrSubstVar},
		// numbers that no variable of a term has
		{row(-api.MaxVar - 1), 0, nil, api.ErrSubstVar},
		{row(-api.MaxVar - 1), -1, row(-api.MaxVar), api.OK},
		{row(math.MinInt), -math.MaxInt, row(-1), api.OK},
		{row(math.MinInt), top - math.MaxInt, row(-api.MaxVar), api.OK},
		{row(math.MinInt), api.MaxVar - math.MaxInt, nil, api.ErrSubstVar},
		// the least and the greatest int
		{row(math.MinInt), math.MinInt, nil, api.ErrSubstVar},
		{row(math.MinInt), math.MaxInt, nil, api.ErrSubstVar},
		{row(-1), math.MinInt, nil, api.ErrSubstVar},
		{row(-1), math.MaxInt, nil, api.ErrSubstVar},
		{row(-2), math.MaxInt, nil, api.ErrSubstVar},
		{row(0, 5, math.MaxInt), math.MinInt, row(0, 5, math.MaxInt), api.OK},
		{row(0, 5, math.MaxInt), math.MaxInt, row(0, 5, math.MaxInt), api.OK},
		{nil, math.MinInt, nil, api.OK},
		{nil, math.MaxInt, nil, api.OK},
		{row(), 5, nil, api.OK},
		// one variable among others, first, last and in the middle
		{row(-2, 2, -3, 0, -9), -2, nil, api.ErrSubstVar},
		{row(-9, 2, -3, 0, -2), -2, nil, api.ErrSubstVar},
		{row(-9, -2, -3), -2, nil, api.ErrSubstVar},
		{row(-9, -3, 1, -3), -2, row(-7, -1, 1, -1), api.OK},
		// a row is no term
		{row(1, 1, 99, -2, -2, 0, 0), 5, row(1, 1, 99, -7, -7, 0, 0), api.OK},
	} {
		if v, e := Shift(x.t, x.by); e != x.e || !slices.Equal(v, x.want) {
			t.Errorf("Shift(%v, %d): %v, %v, want %v, %v", x.t, x.by, v, e, x.want, x.e)
		}
	}
}

// TestShiftIsAsSaid holds numbers and shifts at all edges against sums of whole numbers.
func TestShiftIsAsSaid(t *testing.T) { // P4.3
	var edges []int
	for _, n := range []int{0, api.MaxVar, -api.MaxVar, math.MinInt, math.MaxInt, math.MinInt + api.MaxVar, math.MaxInt - api.MaxVar, math.MinInt / 2, math.MaxInt / 2, 1 << 31, -1 << 31} {
		for d := -3; d <= 3; d++ {
			edges = append(edges, n+d)
		}
	}
	for _, code := range edges {
		for _, by := range edges {
			want, e := row(7, code), api.OK
			if code < 0 {
				number := new(big.Int).Sub(big.NewInt(-1), big.NewInt(int64(code)))
				number.Add(number, big.NewInt(int64(by)))
				if number.Sign() < 0 || number.Cmp(big.NewInt(api.MaxVar)) >= 0 {
					want, e = nil, api.ErrSubstVar
				} else {
					want = row(7, -1-int(number.Int64()))
				}
			}
			if v, f := Shift(row(7, code), by); f != e || !slices.Equal(v, want) {
				t.Fatalf("Shift(7 %d, %d): %v, %v, want %v, %v", code, by, v, f, want, e)
			}
		}
	}
}

func TestCanonExamples(t *testing.T) { // P4.4
	for i, x := range []struct{ l, want [][]int }{
		{[][]int{{2, -7, -3}, {-3, -9}}, [][]int{{2, -1, -2}, {-2, -3}}},
		{nil, nil},
		{[][]int{}, nil},
		{[][]int{nil}, [][]int{nil}},
		{[][]int{{}, {-5}, nil, {-5}, {}}, [][]int{nil, {-1}, nil, {-1}, nil}},
		{[][]int{{-2, -1}}, [][]int{{-1, -2}}},
		{[][]int{{-2}, {-1}}, [][]int{{-1}, {-2}}},
		{[][]int{{0, 1, 2}, {99}}, [][]int{{0, 1, 2}, {99}}},
		{[][]int{{2, -1, -2}}, [][]int{{2, -1, -2}}},
		{[][]int{{-9, -9, -9}}, [][]int{{-1, -1, -1}}},
		{[][]int{{-3, 0, -1, -3, -2}, {-2, -4, -1}}, [][]int{{-1, 0, -2, -1, -3}, {-3, -4, -2}}},
		{[][]int{{math.MinInt, math.MaxInt, -api.MaxVar, -api.MaxVar - 1, math.MinInt}}, [][]int{{-1, math.MaxInt, -2, -3, -1}}},
	} {
		if got := Canon(x.l...); !sameRows(got, x.want) {
			t.Errorf("%d: %v, want %v", i, got, x.want)
		}
	}
	if l := Canon(); len(l) != 0 {
		t.Errorf("no rows: %v", l)
	}
}

// firstMet says how many other variables are met ahead of this code, over all rows.
func firstMet(l [][]int, code int) int {
	var met []int
	for _, u := range l {
		for _, c := range u {
			if c == code {
				return len(met)
			}
			if c < 0 && !slices.Contains(met, c) {
				met = append(met, c)
			}
		}
	}
	return len(met)
}

func TestCanonIsAsSaid(t *testing.T) { // P4.4
	for _, l := range someRows() {
		got := Canon(l...)
		if len(got) != len(l) {
			t.Fatalf("Canon(%v): %v", l, got)
		}
		for i, u := range l {
			want := slices.Clone(u)
			for j, c := range u {
				if c < 0 {
					want[j] = -1 - firstMet(l, c)
				}
			}
			if !slices.Equal(got[i], want) {
				t.Fatalf("Canon(%v): %v, the row %d is %v", l, got, i, want)
			}
		}
	}
}

// TestCanonOfMany holds that a number may be greater than that of any variable of a term.
func TestCanonOfMany(t *testing.T) { // P4.4
	n := api.MaxVar + 5
	u := make([]int, n)
	for i := range u {
		u[i] = -n + i
	}
	got := Canon(u, row(-1))
	if len(got) != 2 || !slices.Equal(got[1], row(-n)) {
		t.Fatal("the last variable has another number in the second row")
	}
	for i, c := range got[0] {
		if c != -1-i {
			t.Fatalf("the code %d is %d", i, c)
		}
	}
}

// someRows are lists of rows, terms and others, of few variables and of many.
func someRows() [][][]int {
	l := [][][]int{nil, {nil}, {nil, nil}, {{-3}, nil, {4, -3}}}
	r := random(2)
	for range 200 {
		var rows [][]int
		for range r.below(5) {
			if r.below(2) == 0 {
				rows = append(rows, r.term(1+r.below(20)))
				continue
			}
			u := make([]int, r.below(12))
			for i := range u {
				u[i] = r.below(40) - 25
			}
			rows = append(rows, u)
		}
		l = append(l, rows)
	}
	return l
}
