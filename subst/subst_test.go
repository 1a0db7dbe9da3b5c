package subst

import (
	"math"
	"slices"
	"testing"

	"lodestone/api"
)

func TestCheckExamples(t *testing.T) { // P4.1
	for i, x := range []struct {
		s    []api.Bind
		want api.Errno
	}{
		{binds(bind(0, 0), bind(2, 1, -1)), api.OK},
		{binds(bind(2, 0), bind(2, 0)), api.ErrSubstOrder},
		{binds(bind(-1, 0)), api.ErrSubstVar},
		{binds(bind(0, 1)), api.ErrTermShort},
	} {
		if e := Check(three(), x.s); e != x.want {
			t.Errorf("%d: %v, want %v", i, e, x.want)
		}
	}
}

func TestCheckTakes(t *testing.T) { // P4.1
	for i, s := range [][]api.Bind{
		nil,
		{},
		{bind(0, -1)},
		{bind(0, -2), bind(1, -1)},
		{bind(api.MaxVar-1, -api.MaxVar)},
		{bind(0, 0), bind(1, 0), bind(api.MaxVar-2, 0), bind(api.MaxVar-1, 0)},
		{bind(3, tower(513, 0)...), bind(4, tower(5000, -1)...)},
	} {
		if e := Check(three(), s); e != api.OK {
			t.Errorf("%d: %v", i, e)
		}
	}
	if e := Check(nil, nil); e != api.OK {
		t.Errorf("nothing at all: %v", e)
	}
	if e := Check(nil, binds(bind(7, -1))); e != api.OK {
		t.Errorf("a variable, without symbols: %v", e)
	}
	r := random(4)
	for range 100 {
		if s := r.binds(); Check(all(), s) != api.OK {
			t.Errorf("%v: %v", s, Check(all(), s))
		}
	}
}

func TestCheckVar(t *testing.T) { // P4.1
	for _, v := range []int{-1, -2, api.MaxVar, api.MaxVar + 1, -api.MaxVar, math.MinInt, math.MaxInt} {
		for _, s := range [][]api.Bind{
			{bind(v, 0)},
			{bind(v)},
			{bind(v, 9)},
			{bind(v, 0), bind(-7, 0)},
			{bind(5, 0), bind(v, 0)},
			{bind(5, 0), bind(v)},
			{bind(5, 0), bind(6, 0), bind(v, 0), bind(1, 0)},
		} {
			if e := Check(three(), s); e != api.ErrSubstVar {
				t.Errorf("%v: %v", s, e)
			}
		}
	}
}

func TestCheckOrder(t *testing.T) { // P4.1
	for _, s := range [][]api.Bind{
		{bind(0, 0), bind(0, 0)},
		{bind(0, 0), bind(0, 0, 0)},
		{bind(1, 0), bind(0)},
		{bind(api.MaxVar-1, 0), bind(0, 0)},
		{bind(api.MaxVar-1, 0), bind(api.MaxVar-1, 0)},
		{bind(1, 0), bind(3, 0), bind(2, 0)},
		{bind(1, 0), bind(3, 0), bind(3, 9)},
		{bind(1, 0), bind(3, 0), bind(1, 0), bind(-1, 0)},
	} {
		if e := Check(three(), s); e != api.ErrSubstOrder {
			t.Errorf("%v: %v", s, e)
		}
	}
}

// TestCheckTerms holds a bind's term at the front, in the middle and at the end; what is wrong with a bind behind it is told by nobody.
func TestCheckTerms(t *testing.T) { // P4.1
	for want, rows := range badRows() {
		for _, u := range rows {
			for _, s := range [][]api.Bind{
				{bind(0, u...)},
				{bind(0, 0), bind(4, u...)},
				{bind(0, 0), bind(4, u...), bind(5, 0)},
				{bind(0, u...), bind(-1, 0)},
				{bind(9, u...), bind(9, 0)},
				{bind(9, u...), bind(3)},
			} {
				if e := Check(three(), s); e != want {
					t.Errorf("%v: %v, want %v", s, e, want)
				}
			}
		}
	}
}

func TestBadSigs(t *testing.T) { // P4.1, P4.2, R3
	for want, sig := range badSigs() {
		for _, s := range [][]api.Bind{nil, {bind(0, 0)}, {bind(-1, 0)}, {bind(2, 0), bind(2, 0)}, {bind(0)}} {
			if e := Check(sig, s); e != want {
				t.Errorf("Check(%v): %v, want %v", s, e, want)
			}
			for _, u := range [][]int{nil, {0}, {9}, tower(600, 0)} {
				if v, e := Apply(sig, s, u); e != want || len(v) > 0 {
					t.Errorf("Apply(%v; %v): %v, %v, want %v", s, u, v, e, want)
				}
			}
		}
	}
}

func TestApplyExamples(t *testing.T) { // P4.2
	for i, x := range []struct {
		s       []api.Bind
		t, want []int
		e       api.Errno
	}{
		{binds(bind(0, 1, -2), bind(1, 0)), row(2, -1, -2), row(2, 1, -2, 0), api.OK},
		{nil, row(2, -1, -2), row(2, -1, -2), api.OK},
		{binds(bind(5, 0)), row(1, -1), row(1, -1), api.OK},
		{binds(bind(0, tower(300, 0)...)), row(2, -1, -1), nil, api.ErrTooBig},
		// what is laid is left alone: variables change places, and one stands in its own term
		{binds(bind(0, -2), bind(1, -1)), row(2, -1, -2), row(2, -2, -1), api.OK},
		{binds(bind(0, 1, -1)), row(2, -1, 1, -1), row(2, 1, -1, 1, 1, -1), api.OK},
		{binds(bind(0, -2), bind(1, -3), bind(2, 0)), row(2, -1, 2, -2, -3), row(2, -2, 2, -3, 0), api.OK},
		// the variable is the whole term
		{binds(bind(0, 2, -4, 0)), row(-1), row(2, -4, 0), api.OK},
		{binds(bind(0, 0)), row(-2), row(-2), api.OK},
		{binds(bind(0, 0)), row(0), row(0), api.OK},
		// the least and the greatest variable
		{binds(bind(0, 0), bind(api.MaxVar-1, 1, 0)), row(2, -api.MaxVar, -1), row(2, 1, 0, 0), api.OK},
		{binds(bind(api.MaxVar-1, -1)), row(-api.MaxVar), row(-1), api.OK},
		{binds(bind(0, -api.MaxVar)), row(-1), row(-api.MaxVar), api.OK},
		{binds(bind(1, 0)), row(2, -1, -3), row(2, -1, -3), api.OK},
	} {
		v, e := Apply(three(), x.s, x.t)
		if e != x.e || !slices.Equal(v, x.want) {
			t.Errorf("%d: %v, %v, want %v, %v", i, v, e, x.want, x.e)
		}
	}
	if v, e := Apply(nil, binds(bind(3, -1)), row(-4)); e != api.OK || !slices.Equal(v, row(-1)) {
		t.Errorf("without symbols: %v, %v", v, e)
	}
}

// TestApplyIsAsSaid holds all small terms and binds, and drawn ones, against the definition.
func TestApplyIsAsSaid(t *testing.T) { // P4.2
	hold := func(sig []api.Symbol, s []api.Bind, u []int) {
		v, e := Apply(sig, s, u)
		if want, _ := madeOf(sig, s, u); e != api.OK || !slices.Equal(v, want) {
			t.Fatalf("Apply(%v; %v): %v, %v, want %v", s, u, v, e, want)
		}
	}
	for _, s := range smallBinds() {
		for _, u := range smallTerms(5) {
			hold(three(), s, u)
		}
	}
	r := random(1)
	for range 300 {
		hold(all(), r.binds(), r.term(1+r.below(25)))
	}
}

// TestApplySize holds answers of so many nodes.
func TestApplySize(t *testing.T) { // P4.2
	for i, x := range []struct {
		s     []api.Bind
		t     []int
		nodes int
	}{
		{binds(bind(0, tower(512, 0)...)), row(-1), 512},
		{binds(bind(0, tower(513, 0)...)), row(-1), 513},
		{binds(bind(0, tower(511, 0)...)), row(1, -1), 512},
		{binds(bind(0, tower(512, 0)...)), row(1, -1), 513},
		{binds(bind(0, tower(255, 0)...)), row(1, 2, -1, -1), 512},
		{binds(bind(0, tower(256, 0)...)), row(2, -1, -1), 513},
		{binds(bind(0, tower(256, 0)...)), row(1, 2, -1, -1), 514},
		{binds(bind(0, tower(500, 0)...)), row(2, -1, 1, 1, 1, 1, 1, 1, 1, 1, 1, 1, 0), 512},
		{binds(bind(0, tower(500, 0)...)), row(2, -1, 1, 1, 1, 1, 1, 1, 1, 1, 1, 1, 1, 0), 513},
		{binds(bind(0, tower(500, 0)...)), row(2, -1, 1, 1, 1, 1, 1, 1, 1, 1, 1, 1, 1, -2), 513},
		{binds(bind(0, tower(500, 0)...), bind(1, 1, 1, -1)), row(2, -1, 1, 1, 1, 1, 1, 1, 1, 1, -2), 512},
		{binds(bind(0, tower(500, 0)...), bind(1, 1, 1, -1)), row(2, -1, 1, 1, 1, 1, 1, 1, 1, 1, 1, -2), 513},
		// a great term that is laid nowhere is in nobody's way
		{binds(bind(0, tower(5000, 0)...)), row(1, -2), 2},
		{binds(bind(0, tower(5000, 0)...)), tower(512, -2), 512},
		// and one that is too big is, whatever is laid there
		{nil, tower(512, -1), 512},
		{nil, tower(513, -1), 513},
		{nil, tower(513, 0), 513},
		{binds(bind(0, 0)), tower(512, -1), 512},
		{binds(bind(0, 0)), tower(513, -1), 513},
		{binds(bind(7, 0)), comb(256), 511},
		{binds(bind(7, 0)), comb(257), 513},
		{binds(bind(0, tower(1<<15, 0)...)), comb(1 << 16), 1<<31 + 1<<16 - 1},
	} {
		v, e := Apply(three(), x.s, x.t)
		if x.nodes > api.MaxNodes {
			if e != api.ErrTooBig || len(v) > 0 {
				t.Errorf("%d: %d nodes: %d, %v", i, x.nodes, len(v), e)
			}
			continue
		}
		if want, _ := madeOf(three(), x.s, x.t); e != api.OK || len(v) != x.nodes || !slices.Equal(v, want) {
			t.Errorf("%d: %d nodes: %d, %v", i, x.nodes, len(v), e)
		}
	}
}

func TestApplyManyBinds(t *testing.T) { // P4.2
	var s []api.Bind
	for v := 0; v < 2000; v += 2 {
		s = append(s, bind(v, tower(1+v%9, -1-v)...))
	}
	for v := range 2000 {
		want := row(1, -1-v)
		if v%2 == 0 {
			want = tower(2+v%9, -1-v)
		}
		if u, e := Apply(three(), s, row(1, -1-v)); e != api.OK || !slices.Equal(u, want) {
			t.Fatalf("the variable %d: %v, %v", v, u, e)
		}
	}
}

// TestApplyErrors holds that the binds are looked at ahead of the term, and this ahead of how much it becomes.
func TestApplyErrors(t *testing.T) { // P4.2, R2
	bad := map[api.Errno][][]api.Bind{
		api.ErrSubstVar:   {{bind(-1, 0)}, {bind(api.MaxVar, 0)}, {bind(0, 0), bind(-1)}},
		api.ErrSubstOrder: {{bind(2, 0), bind(2, 0)}, {bind(2, 0), bind(1, 0), bind(-1, 0)}},
		api.ErrTermShort:  {{bind(0)}, {bind(0, 0), bind(1, 1)}},
		api.ErrTermCode:   {{bind(0, 3)}},
		api.ErrTermMore:   {{bind(0, 0, 0), bind(0, 0)}},
	}
	rows := [][]int{nil, {0}, {-1}, {0, 0}, {7}, {2, -1, -2}, tower(600, -1)}
	for want, l := range bad {
		for _, s := range l {
			for _, u := range rows {
				if v, e := Apply(three(), s, u); e != want || len(v) > 0 {
					t.Errorf("Apply(%v; %v): %v, %v, want %v", s, u, v, e, want)
				}
			}
		}
	}
	for want, l := range badRows() {
		for _, u := range l {
			for _, s := range [][]api.Bind{nil, {bind(0, 0)}, {bind(0, tower(600, 0)...)}} {
				if v, e := Apply(three(), s, u); e != want || len(v) > 0 {
					t.Errorf("Apply(%v; %v): %v, %v, want %v", s, u, v, e, want)
				}
			}
		}
	}
	if v, e := Apply(three(), binds(bind(0, 1)), row(0, 0)); e != api.ErrTermShort || len(v) > 0 {
		t.Errorf("of two wrong rows the bind's is not told first: %v, %v", v, e)
	}
	if v, e := Apply(three(), binds(bind(0, tower(512, 0)...)), row(1, -1, 0)); e != api.ErrTermMore || len(v) > 0 {
		t.Errorf("too big, and no term: %v, %v", v, e)
	}
}
