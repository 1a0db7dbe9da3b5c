package poly

import (
	"math"
	"slices"
	"strconv"
	"testing"

	"lodestone/api"
	"lodestone/nat"
)

func TestCheckExamples(t *testing.T) { // P2.1
	for i, x := range []struct {
		p    []api.Mono
		vars int
		want api.Errno
	}{
		{poly(mono(3), mono(2, 1, 1)), 2, api.OK},
		{poly(mono(2, 1, 1), mono(3)), 2, api.ErrPolyForm},
		{poly(mono(2, 1, 1)), 1, api.ErrPolyForm},
		{poly(mono(0, 1)), 1, api.ErrPolyForm},
		{poly(mono(1, 0)), 1, api.ErrPolyForm},
		{poly(mono(1, 65)), 1, api.ErrTooBig},
		{nil, -1, api.ErrArg},
	} {
		if e := Check(x.p, x.vars); e != x.want {
			t.Errorf("%d: %v, want %v", i, e, x.want)
		}
	}
}

func TestCheckTakes(t *testing.T) { // P2.1
	for _, p := range samples() {
		vars := 0
		for _, m := range p {
			vars = max(vars, len(m.Exps))
		}
		for _, v := range []int{vars, vars + 1, 513, math.MaxInt} {
			if e := Check(p, v); e != api.OK {
				t.Errorf("Check(%v, %d): %v", p, v, e)
			}
		}
		if e := Check(p, vars-1); vars > 0 && e != api.ErrPolyForm {
			t.Errorf("Check(%v, %d): %v", p, vars-1, e)
		}
	}
}

func TestCheckRefuses(t *testing.T) { // P2.1
	for _, x := range wrong() {
		if e := Check(x.p, math.MaxInt); e != x.e {
			t.Errorf("Check(%v): %v, want %v", x.p, e, x.e)
		}
	}
}

func TestCheckWhichFirst(t *testing.T) { // P2.1, R2
	for _, p := range append(samples(), poly(mono(0)), poly(mono(1, 65)), grid(257)) {
		for _, vars := range []int{-1, -2, math.MinInt} {
			if e := Check(p, vars); e != api.ErrArg {
				t.Errorf("Check(%v, %d): %v", p, vars, e)
			}
		}
	}
	for i, p := range [][]api.Mono{
		poly(mono(1, 65)),
		grid(257),
		poly(api.Mono{Coef: []uint32{1}, Exps: wide(512, 1)}),
	} {
		if e := Check(p, 0); e != api.ErrPolyForm {
			t.Errorf("%d: too many variables, and too big: %v", i, e)
		}
	}
}

func TestAddAndMulExamples(t *testing.T) { // P2.2
	x1, y1 := poly(mono(1), mono(1, 1)), poly(mono(1), mono(1, 0, 1))
	if p, e := Add(x1, y1); e != api.OK || !same(p, poly(mono(2), mono(1, 0, 1), mono(1, 1))) {
		t.Error(p, e)
	}
	if p, e := Mul(x1, y1); e != api.OK || !same(p, poly(mono(1), mono(1, 0, 1), mono(1, 1), mono(1, 1, 1))) {
		t.Error(p, e)
	}
	if p, e := Mul(x1, nil); e != api.OK || len(p) > 0 {
		t.Error(p, e)
	}
}

func TestAddAndMul(t *testing.T) { // P2.2
	for i, p := range samples() {
		for j, q := range samples() {
			at := strconv.Itoa(i) + " " + strconv.Itoa(j)
			sum, e := Add(p, q)
			holdSame(t, "Add "+at, sum, e, freeOf(p).plus(freeOf(q)))
			product, e := Mul(p, q)
			holdSame(t, "Mul "+at, product, e, freeOf(p).times(freeOf(q)))
		}
	}
}

func TestAddAtTheBounds(t *testing.T) { // P2.2
	top := limbs(64, full)
	below := append([]uint32{full - 1}, limbs(63, full)...)
	if p, e := Add(only(below), poly(mono(1), mono(1, 1))); e != api.OK || !same(p, poly(api.Mono{Coef: top}, mono(1, 1))) {
		t.Error("up to the greatest coefficient", p, e)
	}
	if p, e := Add(only(top), poly(mono(1))); e != api.ErrTooBig || len(p) > 0 {
		t.Error("beyond the greatest coefficient", p, e)
	}
	if p, e := Add(grid(255), poly(mono(1, 50))); e != api.OK || len(p) != 256 {
		t.Error("256 monomials", len(p), e)
	}
	if p, e := Add(grid(256), poly(mono(1, 50))); e != api.ErrTooBig || len(p) > 0 {
		t.Error("257 monomials", len(p), e)
	}
	if p, e := Add(grid(256), grid(256)); e != api.OK || len(p) != 256 {
		t.Error("256 like monomials", len(p), e)
	}
}

func TestMulAtTheBounds(t *testing.T) { // P2.2
	if p, e := Mul(poly(mono(1, 31)), poly(mono(1, 33, 1))); e != api.OK || !same(p, poly(mono(1, 64, 1))) {
		t.Error("the 64th power", p, e)
	}
	if p, e := Mul(poly(mono(1, 32)), poly(mono(1, 33, 1))); e != api.ErrTooBig || len(p) > 0 {
		t.Error("the 65th power", p, e)
	}
	if p, e := Mul(poly(mono(1, 64)), poly(mono(1, 64))); e != api.ErrTooBig || len(p) > 0 {
		t.Error("the 128th power", p, e)
	}
	if p, e := Mul(powers(16, 0), powers(16, 1)); e != api.OK || len(p) != 256 {
		t.Error("256 monomials", len(p), e)
	}
	if p, e := Mul(powers(17, 0), powers(16, 1)); e != api.ErrTooBig || len(p) > 0 {
		t.Error("272 monomials", len(p), e)
	}
	if p, e := Mul(only(power2(31)), only(power2(32))); e != api.OK || !same(p, only(power2(63))) {
		t.Error("a coefficient of 64 limbs", p, e)
	}
	if p, e := Mul(only(power2(32)), only(power2(32))); e != api.ErrTooBig || len(p) > 0 {
		t.Error("a coefficient of 65 limbs", p, e)
	}
	// Each product of two monomials fits, the sum of the like ones does not.
	half := append(limbs(63, 0), 1<<31)
	p := poly(api.Mono{Coef: half}, api.Mono{Coef: half, Exps: []int{1}})
	if p, e := Mul(p, poly(mono(1), mono(1, 1))); e != api.ErrTooBig || len(p) > 0 {
		t.Error("like monomials beyond the greatest coefficient", p, e)
	}
}

func TestAddAndMulRefuse(t *testing.T) { // P2.2, R2
	for _, x := range wrong() {
		for _, q := range [][]api.Mono{nil, poly(mono(1)), grid(256)} {
			holdRefused(t, x.p, q, x.e)
			holdRefused(t, q, x.p, x.e)
		}
		for _, y := range wrong() {
			holdRefused(t, x.p, y.p, x.e)
		}
	}
}

func holdRefused(t *testing.T, p, q []api.Mono, want api.Errno) {
	t.Helper()
	if s, e := Add(p, q); len(s) > 0 || e != want {
		t.Errorf("Add(%v, %v): %v, %v; want %v", p, q, s, e, want)
	}
	if s, e := Mul(p, q); len(s) > 0 || e != want {
		t.Errorf("Mul(%v, %v): %v, %v; want %v", p, q, s, e, want)
	}
	if AtLeast(p, q) || Greater(p, q) {
		t.Errorf("AtLeast, Greater(%v, %v): true", p, q)
	}
}

func TestComposeExamples(t *testing.T) { // P2.3
	for i, x := range []struct {
		p    []api.Mono
		args [][]api.Mono
		want []api.Mono
		e    api.Errno
	}{
		{poly(mono(3), mono(2, 1, 1)), [][]api.Mono{poly(mono(1), mono(1, 1)), poly(mono(1, 1))}, poly(mono(3), mono(2, 1), mono(2, 2)), api.OK},
		{poly(mono(1, 1, 1)), [][]api.Mono{nil, poly(mono(1, 64))}, nil, api.OK},
		{poly(mono(1, 2, 1)), [][]api.Mono{poly(mono(1, 40)), nil}, nil, api.OK},
		{poly(mono(1, 2)), [][]api.Mono{poly(mono(1, 40))}, nil, api.ErrTooBig},
		{poly(mono(1, 0, 1)), [][]api.Mono{poly(mono(1, 1))}, nil, api.ErrPolyArgs},
	} {
		if p, e := Compose(x.p, x.args); e != x.e || !same(p, x.want) {
			t.Errorf("%d: %v, %v", i, p, e)
		}
	}
}

func TestCompose(t *testing.T) { // P2.3
	args := append(plain()[:11], poly(mono(1, 64)), only(limbs(64, full)), powers(17, 2), poly(mono(1, 40), mono(1, 50)))
	for i, p := range plain() {
		for j := range args {
			l := [][]api.Mono{args[j], args[(j+3)%len(args)], args[(j*7+i)%len(args)]}
			q, e := Compose(p, l)
			holdSame(t, "Compose "+strconv.Itoa(i)+" "+strconv.Itoa(j), q, e, freeOf(p).of(freesOf(l)))
		}
	}
}

func TestComposePowers(t *testing.T) { // P2.3
	for n := 1; n <= 64; n++ {
		for _, arg := range [][]api.Mono{nil, poly(mono(1)), poly(mono(3)), poly(mono(1, 1)), poly(mono(1, 2)), poly(mono(1, 21)), poly(mono(1, 64)), poly(mono(1), mono(1, 0, 1)), only([]uint32{0, 1}), only([]uint32{1, 0, 1})} {
			q, e := Compose(poly(mono(2, n)), [][]api.Mono{arg})
			holdSame(t, "the power "+strconv.Itoa(n), q, e, freeOf(poly(mono(2, n))).of([]free{freeOf(arg)}))
		}
	}
}

func TestComposeEdges(t *testing.T) { // P2.3
	steep := poly(mono(1, 64))
	top := limbs(64, full)
	last := api.Mono{Coef: []uint32{1}, Exps: wide(511, 1)}
	many := make([][]api.Mono, 512)
	many[511] = poly(mono(1, 1))
	for i, x := range []struct {
		p    []api.Mono
		args [][]api.Mono
		want []api.Mono
		e    api.Errno
	}{
		{nil, nil, nil, api.OK},
		{nil, [][]api.Mono{steep}, nil, api.OK},
		{poly(mono(5)), nil, poly(mono(5)), api.OK},
		{poly(mono(5)), [][]api.Mono{nil, steep}, poly(mono(5)), api.OK},
		{poly(mono(1, 0, 1)), [][]api.Mono{nil, poly(mono(7, 3))}, poly(mono(7, 3)), api.OK}, // the 0-th power of 0 is 1
		{poly(mono(4), mono(1, 1)), [][]api.Mono{nil}, poly(mono(4)), api.OK},
		{poly(mono(2, 0, 1), mono(1, 2, 0, 1), mono(3, 4)), [][]api.Mono{steep, poly(mono(1)), nil}, nil, api.ErrTooBig},
		{poly(mono(2, 0, 1), mono(1, 2, 0, 1)), [][]api.Mono{steep, poly(mono(1)), nil}, poly(mono(2)), api.OK},
		{poly(mono(2, 64, 64, 64)), [][]api.Mono{only(top), grid(256), nil}, nil, api.OK},
		{poly(mono(2, 64, 64, 64)), [][]api.Mono{nil, grid(256), only(top)}, nil, api.OK},
		{poly(mono(2, 1)), [][]api.Mono{only(top)}, nil, api.ErrTooBig},
		{poly(mono(1, 1)), [][]api.Mono{only(top)}, only(top), api.OK},
		{poly(mono(1), mono(1, 1)), [][]api.Mono{only(top)}, nil, api.ErrTooBig},
		{poly(mono(1, 1)), [][]api.Mono{grid(256)}, grid(256), api.OK},
		{poly(mono(1, 0, 1), mono(1, 1)), [][]api.Mono{grid(256), poly(mono(1, 50))}, nil, api.ErrTooBig},
		{poly(mono(1, 1, 1)), [][]api.Mono{poly(mono(1, 32)), poly(mono(1, 32))}, steep, api.OK},
		{poly(mono(1, 1, 1)), [][]api.Mono{poly(mono(1, 32)), poly(mono(1, 33))}, nil, api.ErrTooBig},
		{poly(last), many, poly(mono(1, 1)), api.OK},
		{poly(last), many[1:], nil, api.ErrPolyArgs},
	} {
		if p, e := Compose(x.p, x.args); e != x.e || !same(p, x.want) {
			t.Errorf("%d: %v, %v; want %v, %v", i, p, e, x.want, x.e)
		}
	}
}

func TestComposeRefuses(t *testing.T) { // P2.3, R2
	xy, x := poly(mono(1, 1, 1)), poly(mono(1, 1))
	for _, a := range wrong() {
		for i, c := range []struct {
			p    []api.Mono
			args [][]api.Mono
		}{
			{a.p, nil},
			{a.p, [][]api.Mono{x, x}},
			{a.p, [][]api.Mono{poly(mono(0))}},
			{a.p, [][]api.Mono{poly(mono(1, 65))}},
			{xy, [][]api.Mono{a.p, x}},
			{xy, [][]api.Mono{x, a.p}},
			{xy, [][]api.Mono{x, nil, a.p}}, // one that p does not name
			{nil, [][]api.Mono{a.p}},
			{xy, [][]api.Mono{a.p}}, // ahead of ErrPolyArgs
			{xy, [][]api.Mono{a.p, poly(mono(0))}},
			{xy, [][]api.Mono{a.p, poly(mono(1, 65))}},
			{xy, [][]api.Mono{nil, a.p}},
			{poly(mono(1, 2)), [][]api.Mono{poly(mono(1, 40)), a.p}},
		} {
			if p, e := Compose(c.p, c.args); len(p) > 0 || e != a.e {
				t.Errorf("%d: %v: %v, %v; want %v", i, a.p, p, e, a.e)
			}
		}
	}
	for i, c := range []struct {
		p    []api.Mono
		args [][]api.Mono
	}{
		{x, nil},
		{xy, [][]api.Mono{nil}},
		{poly(mono(1, 0, 0, 1), mono(1, 2)), [][]api.Mono{poly(mono(1, 40)), x}}, // ahead of ErrTooBig
	} {
		if p, e := Compose(c.p, c.args); len(p) > 0 || e != api.ErrPolyArgs {
			t.Errorf("%d: %v, %v", i, p, e)
		}
	}
}

func TestValueExamples(t *testing.T) { // P2.4
	if v, e := Value(poly(mono(3), mono(2, 1, 1)), [][]uint32{{5}, {7}}); e != api.OK || !slices.Equal(v, []uint32{73}) {
		t.Error(v, e)
	}
	if v, e := Value(poly(mono(1, 1)), nil); e != api.ErrPolyArgs || len(v) > 0 {
		t.Error(v, e)
	}
	if v, e := Value(poly(mono(5)), nil); e != api.OK || !slices.Equal(v, []uint32{5}) {
		t.Error(v, e)
	}
}

func TestValue(t *testing.T) { // P2.4
	values := numbers()
	for i, p := range append(plain(), poly(mono(1, 64)), powers(65, 0), grid(256), only(limbs(64, full))) {
		for j := range values {
			at := [][]uint32{values[j], values[(j+5)%len(values)], values[(j*7+i)%len(values)]}
			v, e := Value(p, at)
			holdNumber(t, "Value "+strconv.Itoa(i)+" "+strconv.Itoa(j), v, e, freeOf(p).at(bigsOf(at)))
		}
	}
	for n := 1; n <= 64; n++ {
		for _, a := range values {
			v, e := Value(poly(mono(3, n)), [][]uint32{a})
			holdNumber(t, "the power "+strconv.Itoa(n), v, e, freeOf(poly(mono(3, n))).at(bigsOf([][]uint32{a})))
		}
	}
}

func TestValueEdges(t *testing.T) { // P2.4
	top := limbs(64, full)
	for i, x := range []struct {
		p    []api.Mono
		at   [][]uint32
		want []uint32
		e    api.Errno
	}{
		{nil, nil, nil, api.OK},
		{nil, [][]uint32{{1}}, nil, api.OK},
		{poly(mono(1, 1)), [][]uint32{top}, top, api.OK},
		{poly(mono(2, 1)), [][]uint32{top}, nil, api.ErrTooBig},
		{poly(mono(1), mono(1, 1)), [][]uint32{top}, nil, api.ErrTooBig},
		{poly(mono(1, 64, 1)), [][]uint32{top, nil}, nil, api.OK}, // a factor 0 ahead of one that is too big
		{poly(mono(1, 1, 64)), [][]uint32{nil, top}, nil, api.OK},
		{poly(mono(1, 0, 1)), [][]uint32{nil, {9}}, []uint32{9}, api.OK}, // the 0-th power of 0 is 1
		{poly(mono(1, 2)), [][]uint32{power2(31)}, power2(62), api.OK},
		{poly(mono(1, 2)), [][]uint32{power2(32)}, nil, api.ErrTooBig},
		{poly(mono(1, 63)), [][]uint32{{0, 1}}, power2(63), api.OK},
		{poly(mono(1, 64)), [][]uint32{{0, 1}}, nil, api.ErrTooBig},
		{only(top), nil, top, api.OK},
	} {
		if v, e := Value(x.p, x.at); e != x.e || !slices.Equal(v, x.want) {
			t.Errorf("%d: %x, %v; want %x, %v", i, v, e, x.want, x.e)
		}
	}
}

func TestValueRefuses(t *testing.T) { // P2.4, R2
	none := [][]uint32{{0}, {1, 0}, limbs(65, 1), power2(64)}
	for _, a := range wrong() {
		for _, at := range [][][]uint32{nil, {{1}, {2}}, {none[0]}} {
			if v, e := Value(a.p, at); len(v) > 0 || e != a.e {
				t.Errorf("Value(%v): %x, %v; want %v", a.p, v, e, a.e)
			}
		}
	}
	for i, a := range none {
		for _, x := range []struct {
			p    []api.Mono
			at   [][]uint32
			want api.Errno
		}{
			{nil, [][]uint32{a}, api.ErrNatForm},
			{poly(mono(1, 1)), [][]uint32{a}, api.ErrNatForm},
			{poly(mono(1, 1)), [][]uint32{{1}, a}, api.ErrNatForm}, // one that p does not name
			{poly(mono(2, 1)), [][]uint32{limbs(64, full), a}, api.ErrNatForm},
			{poly(mono(1, 1, 1)), [][]uint32{a}, api.ErrPolyArgs}, // told first
			{poly(mono(1, 0, 0, 1), mono(1, 1)), [][]uint32{{1}, a}, api.ErrPolyArgs},
		} {
			if v, e := Value(x.p, x.at); len(v) > 0 || e != x.want {
				t.Errorf("%d: %x, %v; want %v", i, v, e, x.want)
			}
		}
	}
	if v, e := Value(poly(mono(1), mono(1, 2), mono(1, 2, 1)), [][]uint32{limbs(64, full)}); len(v) > 0 || e != api.ErrPolyArgs {
		t.Errorf("too few, and too big: %x, %v", v, e)
	}
}

func TestAtLeastAndGreaterExamples(t *testing.T) { // P2.5
	p, xy := poly(mono(3), mono(2, 1, 1)), poly(mono(1, 1, 1))
	for i, x := range []struct{ got, want bool }{
		{AtLeast(p, xy), true},
		{Greater(p, xy), true},
		{Greater(p, p), false},
		{AtLeast(poly(mono(1, 2)), poly(mono(1, 1))), false},
		{Greater(poly(mono(1)), nil), true},
	} {
		if x.got != x.want {
			t.Errorf("%d: %v", i, x.got)
		}
	}
}

func TestAtLeastAndGreater(t *testing.T) { // P2.5
	top := only(limbs(64, full))
	for i, x := range []struct {
		p, q             []api.Mono
		atLeast, greater bool
	}{
		{nil, nil, true, false},
		{nil, poly(mono(1)), false, false},
		{poly(mono(1)), nil, true, true},
		{poly(mono(2)), poly(mono(1)), true, true},
		{poly(mono(1)), poly(mono(2)), false, false},
		{poly(mono(1, 1)), nil, true, false},
		{poly(mono(5, 1)), poly(mono(4, 1)), true, false},
		{poly(mono(4, 1)), poly(mono(5, 1)), false, false},
		{poly(mono(9), mono(4, 1)), poly(mono(5, 1)), false, false},
		{poly(mono(1), mono(5, 1)), poly(mono(5, 1)), true, true},
		{poly(mono(1), mono(5, 1)), poly(mono(1), mono(4, 1)), true, false},
		{poly(mono(2), mono(5, 1)), poly(mono(1), mono(5, 1)), true, true},
		{poly(mono(9, 1)), poly(mono(1)), false, false},
		{poly(mono(9), mono(9, 1)), poly(mono(1, 0, 1)), false, false},
		{poly(mono(9), mono(9, 1)), poly(mono(1, 1, 1)), false, false},
		{poly(mono(9), mono(9, 1, 1)), poly(mono(1, 1)), false, false},
		{poly(mono(1), mono(1, 0, 1), mono(1, 1), mono(1, 2)), poly(mono(1, 0, 1), mono(1, 2)), true, true},
		{poly(mono(1), mono(1, 0, 1), mono(1, 1)), poly(mono(1, 0, 1), mono(1, 2)), false, false},
		{only([]uint32{0, 1}), only([]uint32{full}), true, true},
		{only([]uint32{full}), only([]uint32{0, 1}), false, false},
		{top, top, true, false},
		{top, only(power2(63)), true, true},
		{grid(256), grid(255), true, false},
		{grid(255), grid(256), false, false},
		{grid(256), powers(60, 1), true, false},
		{poly(mono(1), mono(1, 64)), poly(mono(1, 64)), true, true},
	} {
		if AtLeast(x.p, x.q) != x.atLeast || Greater(x.p, x.q) != x.greater {
			t.Errorf("%d: %v, %v", i, AtLeast(x.p, x.q), Greater(x.p, x.q))
		}
	}
}

func TestAtLeastAsItIsSaid(t *testing.T) { // P2.5
	for i, p := range samples() {
		for j, q := range samples() {
			left, right := freeOf(p), freeOf(q)
			want := true
			for key, n := range right {
				want = want && left[key] != nil && left[key].Cmp(n) >= 0
			}
			greater := want && left[""] != nil && (right[""] == nil || left[""].Cmp(right[""]) > 0)
			if AtLeast(p, q) != want || Greater(p, q) != greater {
				t.Errorf("%d, %d: %v, %v; want %v, %v", i, j, AtLeast(p, q), Greater(p, q), want, greater)
			}
		}
	}
	for _, x := range wrong() {
		if AtLeast(x.p, x.p) || AtLeast(x.p, nil) || Greater(x.p, nil) {
			t.Errorf("%v is at least something", x.p)
		}
	}
}

// reckoned is an answer, if that of an earlier call was OK, too.
func reckoned(do func(p, q []api.Mono) ([]api.Mono, api.Errno), p, q []api.Mono, ok *bool) []api.Mono {
	s, e := do(p, q)
	*ok = *ok && e == api.OK
	return s
}

func TestRing(t *testing.T) { // P2.6
	all := samples()
	one := poly(mono(1))
	for _, p := range all {
		for _, do := range []func(p, q []api.Mono) ([]api.Mono, api.Errno){
			func(p, _ []api.Mono) ([]api.Mono, api.Errno) { return Add(p, nil) },
			func(p, _ []api.Mono) ([]api.Mono, api.Errno) { return Add(nil, p) },
			func(p, _ []api.Mono) ([]api.Mono, api.Errno) { return Mul(p, one) },
			func(p, _ []api.Mono) ([]api.Mono, api.Errno) { return Mul(one, p) },
		} {
			if q, e := do(p, nil); e != api.OK || !same(p, q) {
				t.Errorf("0 added, or 1 multiplied, to %v: %v, %v", p, q, e)
			}
		}
		if q, e := Mul(nil, p); e != api.OK || len(q) > 0 {
			t.Errorf("0 times %v: %v, %v", p, q, e)
		}
		for _, q := range all {
			holdEitherWay(t, p, q)
		}
	}
	for _, p := range plain() {
		for _, q := range plain() {
			for _, r := range plain() {
				holdGroups(t, p, q, r)
			}
		}
	}
}

func holdEitherWay(t *testing.T, p, q []api.Mono) {
	t.Helper()
	a, e := Add(p, q)
	b, f := Add(q, p)
	if e != f || !same(a, b) {
		t.Errorf("Add changes with its sides: %v, %v", p, q)
	}
	a, e = Mul(p, q)
	b, f = Mul(q, p)
	if e != f || !same(a, b) {
		t.Errorf("Mul changes with its sides: %v, %v", p, q)
	}
}

func holdGroups(t *testing.T, p, q, r []api.Mono) {
	t.Helper()
	ok := true
	a := reckoned(Add, reckoned(Add, p, q, &ok), r, &ok)
	b := reckoned(Add, p, reckoned(Add, q, r, &ok), &ok)
	if !ok || !same(a, b) {
		t.Errorf("Add hangs on how it is put together: %v, %v, %v", p, q, r)
	}
	a = reckoned(Mul, reckoned(Mul, p, q, &ok), r, &ok)
	b = reckoned(Mul, p, reckoned(Mul, q, r, &ok), &ok)
	if !ok || !same(a, b) {
		t.Errorf("Mul hangs on how it is put together: %v, %v, %v", p, q, r)
	}
	a = reckoned(Mul, p, reckoned(Add, q, r, &ok), &ok)
	b = reckoned(Add, reckoned(Mul, p, q, &ok), reckoned(Mul, p, r, &ok), &ok)
	if !ok || !same(a, b) {
		t.Errorf("Mul does not go over Add: %v, %v, %v", p, q, r)
	}
}

func TestWorth(t *testing.T) { // P2.7
	at := [][]uint32{{3}, {0, 2}, {full, 1}}
	held := 0
	for _, p := range plain() {
		for _, q := range plain() {
			sum, e := Add(p, q)
			holdWorth(t, sum, e, nat.Add, p, q, at)
			product, e := Mul(p, q)
			holdWorth(t, product, e, nat.Mul, p, q, at)
			if holdComposed(t, p, [][]api.Mono{q, p, poly(mono(2), mono(1, 0, 1))}, at) {
				held++
			}
		}
	}
	if held < 200 {
		t.Errorf("only %d that are not too big", held)
	}
}

func holdWorth(t *testing.T, whole []api.Mono, e api.Errno, do func(a, b []uint32) ([]uint32, api.Errno), p, q []api.Mono, at [][]uint32) {
	t.Helper()
	a, f := Value(p, at)
	b, g := Value(q, at)
	c, h := Value(whole, at)
	if e != api.OK || f != api.OK || g != api.OK || h != api.OK {
		t.Fatalf("too big: %v, %v", p, q)
	}
	if want, e := do(a, b); e != api.OK || !slices.Equal(c, want) {
		t.Errorf("%v, %v: worth %x, want %x", p, q, c, want)
	}
}

// holdComposed tells whether there was something to hold: nothing is promised of what is too big.
func holdComposed(t *testing.T, p []api.Mono, args [][]api.Mono, at [][]uint32) bool {
	t.Helper()
	whole, e := Compose(p, args)
	if e != api.OK {
		return false
	}
	var inner [][]uint32
	for _, arg := range args {
		v, _ := Value(arg, at)
		inner = append(inner, v)
	}
	a, e := Value(whole, at)
	b, f := Value(p, inner)
	if e != f || !slices.Equal(a, b) {
		t.Errorf("%v of %v: worth %x, want %x", p, args, a, b)
	}
	return e == api.OK
}

func TestGreaterIsGreater(t *testing.T) { // P2.8
	values := numbers()
	all := append(plain(), poly(mono(1, 64)), powers(65, 0), only(limbs(64, full)), poly(mono(4), mono(2, 1, 1)), poly(mono(2), mono(1, 1)), poly(mono(6), mono(2, 1)))
	for _, p := range all {
		if !AtLeast(p, p) {
			t.Errorf("%v is not at least itself", p)
		}
		for _, q := range all {
			if Greater(p, q) && Greater(q, p) {
				t.Errorf("each is greater: %v, %v", p, q)
			}
			for i := range values {
				holdGreater(t, p, q, [][]uint32{values[i], values[(i+1)%len(values)], values[(i+4)%len(values)]})
			}
		}
	}
}

func holdGreater(t *testing.T, p, q []api.Mono, at [][]uint32) {
	t.Helper()
	a, e := Value(p, at)
	if e != api.OK || !AtLeast(p, q) {
		return
	}
	b, f := Value(q, at)
	if n, _ := nat.Cmp(a, b); f != api.OK || n < 0 || n == 0 && Greater(p, q) {
		t.Errorf("%v, %v: worth %x, and %x, %v", p, q, a, b, f)
	}
}
