package nat

import (
	"math/big"
	"slices"
	"strings"
	"testing"

	"lodestone/api"
)

const full = 1<<32 - 1

// row is n limbs that are all alike.
func row(n int, limb uint32) []uint32 {
	return slices.Repeat([]uint32{limb}, n)
}

// power is 2^(32 n): n limbs of 0, and a 1 on top.
func power(n int) []uint32 {
	return append(row(n, 0), 1)
}

func bigOf(a []uint32) *big.Int {
	n := new(big.Int)
	for _, limb := range slices.Backward(a) {
		n.Lsh(n, 32).Or(n, new(big.Int).SetUint64(uint64(limb)))
	}
	return n
}

func limbsOf(n *big.Int) []uint32 {
	var a []uint32
	for rest := new(big.Int).Set(n); rest.Sign() > 0; rest.Rsh(rest, 32) {
		a = append(a, uint32(rest.Uint64()))
	}
	return a
}

// samples are naturals of many lengths: edges of the carry, of the limbs' number, and some without a pattern, the same in each run.
func samples() [][]uint32 {
	l := [][]uint32{nil, {1}, {2}, {9}, {10}, {full}, {0, 1}, {1, 1}, {full, full}, {0, 0, 1}, {7, 0, full}, {0, full}}
	for _, n := range []int{31, 32, 33, 63, 64} {
		l = append(l, row(n, full), power(n-1), append(row(n-1, full), 1))
	}
	seed := uint64(1)
	for _, n := range []int{1, 2, 3, 5, 8, 16, 21, 31, 32, 33, 48, 63, 64} {
		a := make([]uint32, n)
		for i := range a {
			seed = seed*6364136223846793005 + 1442695040888963407
			a[i] = uint32(seed >> 32)
		}
		a[n-1] |= 1
		l = append(l, a)
	}
	return l
}

// wrong are rows that are no naturals.
func wrong() [][]uint32 {
	return [][]uint32{{0}, {1, 0}, {0, 0}, append(row(63, full), 0), row(65, 1), row(65, full), power(64), append(row(64, 1), 0), row(200, 0)}
}

// holdSame holds an answer against a number that has no bound: too big just if it needs more than MaxLimbs limbs.
func holdSame(t *testing.T, what string, a []uint32, e api.Errno, want *big.Int) {
	t.Helper()
	limbs := limbsOf(want)
	if len(limbs) > api.MaxLimbs {
		if e != api.ErrTooBig || len(a) > 0 {
			t.Errorf("%s: %x, %v; want ErrTooBig", what, a, e)
		}
		return
	}
	if e != api.OK || !slices.Equal(a, limbs) {
		t.Errorf("%s: %x, %v; want %x", what, a, e, limbs)
	}
}

func TestRight(t *testing.T) { // P1.1
	for _, a := range samples() {
		if !Right(a) {
			t.Errorf("Right(%x): false", a)
		}
	}
	if !Right([]uint32{}) {
		t.Error("Right of an empty row: false")
	}
	for _, a := range wrong() {
		if Right(a) {
			t.Errorf("Right(%x): true", a)
		}
	}
}

func TestOf(t *testing.T) { // P1.1
	for _, x := range []struct {
		n    uint64
		want []uint32
	}{
		{0, nil},
		{1, []uint32{1}},
		{full, []uint32{full}},
		{1 << 32, []uint32{0, 1}},
		{1<<32 + 5, []uint32{5, 1}},
		{0x123456789abcdef0, []uint32{0x9abcdef0, 0x12345678}},
		{1<<64 - 1, []uint32{full, full}},
	} {
		if a := Of(x.n); !slices.Equal(a, x.want) || !Right(a) {
			t.Errorf("Of(%d): %x", x.n, a)
		}
	}
}

func TestAddAndMul(t *testing.T) { // P1.2
	for _, a := range samples() {
		for _, b := range samples() {
			sum, e := Add(a, b)
			holdSame(t, "Add", sum, e, new(big.Int).Add(bigOf(a), bigOf(b)))
			product, f := Mul(a, b)
			holdSame(t, "Mul", product, f, new(big.Int).Mul(bigOf(a), bigOf(b)))
		}
	}
}

func TestAddAtTheBound(t *testing.T) { // P1.2
	top := row(64, full)
	below := append([]uint32{full - 1}, row(63, full)...)
	if a, e := Add(below, Of(1)); e != api.OK || !slices.Equal(a, top) {
		t.Errorf("Add up to the greatest: %x, %v", a, e)
	}
	if a, e := Add(Of(1), top); e != api.ErrTooBig || len(a) > 0 {
		t.Errorf("Add beyond the greatest: %x, %v", a, e)
	}
	if a, e := Add(top, nil); e != api.OK || !slices.Equal(a, top) {
		t.Errorf("Add(top, 0): %x, %v", a, e)
	}
}

func TestMulAtTheBound(t *testing.T) { // P1.2
	top := row(64, full)
	if a, e := Mul(power(31), power(32)); e != api.OK || !slices.Equal(a, power(63)) {
		t.Errorf("64 limbs of 32 and 33: %x, %v", a, e)
	}
	if a, e := Mul(power(32), power(32)); e != api.ErrTooBig || len(a) > 0 {
		t.Errorf("65 limbs of 33 and 33: %x, %v", a, e)
	}
	if a, e := Mul(row(32, full), row(33, full)); e != api.ErrTooBig || len(a) > 0 {
		t.Errorf("65 limbs of 32 and 33: %x, %v", a, e)
	}
	if a, e := Mul(top, Of(2)); e != api.ErrTooBig || len(a) > 0 {
		t.Errorf("Mul(top, 2): %x, %v", a, e)
	}
	if a, e := Mul(top, Of(1)); e != api.OK || !slices.Equal(a, top) {
		t.Errorf("Mul(top, 1): %x, %v", a, e)
	}
	if a, e := Mul(top, nil); e != api.OK || len(a) > 0 {
		t.Errorf("Mul(top, 0): %x, %v", a, e)
	}
}

func TestCmp(t *testing.T) { // P1.2
	for _, a := range samples() {
		for _, b := range samples() {
			if n, e := Cmp(a, b); e != api.OK || n != bigOf(a).Cmp(bigOf(b)) {
				t.Errorf("Cmp(%x, %x): %d, %v", a, b, n, e)
			}
		}
	}
}

func TestWrongLimbs(t *testing.T) { // P1.2, P1.3
	all := append(samples(), wrong()...)
	for _, a := range wrong() {
		for _, b := range all {
			holdRefused(t, a, b)
			holdRefused(t, b, a)
		}
		if s, e := Text(a); s != "" || e != api.ErrNatForm {
			t.Errorf("Text(%x): %q, %v", a, s, e)
		}
	}
}

func holdRefused(t *testing.T, a, b []uint32) {
	t.Helper()
	if s, e := Add(a, b); len(s) > 0 || e != api.ErrNatForm {
		t.Errorf("Add(%x, %x): %x, %v", a, b, s, e)
	}
	if p, e := Mul(a, b); len(p) > 0 || e != api.ErrNatForm {
		t.Errorf("Mul(%x, %x): %x, %v", a, b, p, e)
	}
	if n, e := Cmp(a, b); n != 0 || e != api.ErrNatForm {
		t.Errorf("Cmp(%x, %x): %d, %v", a, b, n, e)
	}
}

func TestText(t *testing.T) { // P1.3
	for _, x := range []struct {
		a    []uint32
		want string
	}{
		{nil, "0"},
		{[]uint32{}, "0"},
		{[]uint32{7}, "7"},
		{[]uint32{10}, "10"},
		{[]uint32{1000000000}, "1000000000"},
		{[]uint32{full}, "4294967295"},
		{[]uint32{0, 1}, "4294967296"},
		{[]uint32{0, 0, 1}, "18446744073709551616"},
	} {
		if s, e := Text(x.a); s != x.want || e != api.OK {
			t.Errorf("Text(%x): %q, %v", x.a, s, e)
		}
	}
	for _, a := range samples() {
		if s, e := Text(a); s != bigOf(a).String() || e != api.OK {
			t.Errorf("Text(%x): %q, %v", a, s, e)
		}
	}
}

func TestParse(t *testing.T) { // P1.3
	for _, x := range []struct {
		s    string
		want []uint32
	}{
		{"0", nil},
		{"9", []uint32{9}},
		{"10", []uint32{10}},
		{"4294967295", []uint32{full}},
		{"4294967296", []uint32{0, 1}},
		{"18446744073709551616", []uint32{0, 0, 1}},
		{bigOf(row(64, full)).String(), row(64, full)},
	} {
		if a, e := Parse(x.s); !slices.Equal(a, x.want) || e != api.OK {
			t.Errorf("Parse(%q): %x, %v", x.s, a, e)
		}
	}
}

func TestParseTooBig(t *testing.T) { // P1.3
	for _, s := range []string{
		bigOf(power(64)).String(),
		bigOf(row(65, full)).String(),
		bigOf(row(64, full)).String() + "0",
		strings.Repeat("9", 617),
		"1" + strings.Repeat("0", 1<<20),
	} {
		if a, e := Parse(s); len(a) > 0 || e != api.ErrTooBig {
			t.Errorf("Parse of %d digits: %x, %v", len(s), a, e)
		}
	}
}

func TestParseNoNumeral(t *testing.T) { // P1.3
	long := strings.Repeat("1", 2000)
	for _, s := range []string{
		"", "00", "01", "007", "0" + long, "-1", "+1", "-0", " ", " 1", "1 ", "1\n", "1a", "a", "0x1", "1_0", "1.0", "1e3",
		"/", ":", "1/", "1:", "\x00", "1\x00", "\xff", "1\xb2", "\u0663", "1\u0663", "\uff11", long + "a", long + " ",
	} {
		if a, e := Parse(s); len(a) > 0 || e != api.ErrNatText {
			t.Errorf("Parse(%q): %x, %v", s, a, e)
		}
	}
}

func TestSidesAndOrder(t *testing.T) { // P1.4
	for _, op := range []struct {
		name string
		do   func(a, b []uint32) ([]uint32, api.Errno)
	}{{"Add", Add}, {"Mul", Mul}} {
		for _, a := range samples() {
			for _, b := range samples() {
				ab, e := op.do(a, b)
				ba, f := op.do(b, a)
				if !slices.Equal(ab, ba) || e != f {
					t.Errorf("%s changes with its sides: %x, %x", op.name, a, b)
				}
				for _, c := range samples() {
					holdGrouped(t, op.name, op.do, a, b, c)
				}
			}
		}
	}
}

func holdGrouped(t *testing.T, name string, do func(a, b []uint32) ([]uint32, api.Errno), a, b, c []uint32) {
	t.Helper()
	ab, e := do(a, b)
	bc, f := do(b, c)
	if e != api.OK || f != api.OK {
		return
	}
	left, e := do(ab, c)
	right, f := do(a, bc)
	if e != f || !slices.Equal(left, right) {
		t.Errorf("%s hangs on how it is put together: %x, %x, %x", name, a, b, c)
	}
}

func TestProductOfASum(t *testing.T) { // P1.4
	for _, a := range samples() {
		for _, b := range samples() {
			for _, c := range samples() {
				holdSpread(t, a, b, c)
			}
		}
	}
}

// holdSpread: a (b + c) is ab + ac, and one is too big just if the other one is.
func holdSpread(t *testing.T, a, b, c []uint32) {
	t.Helper()
	sum, e := Add(b, c)
	ab, f := Mul(a, b)
	ac, g := Mul(a, c)
	if e != api.OK || f != api.OK || g != api.OK {
		return
	}
	left, e := Mul(a, sum)
	right, f := Add(ab, ac)
	if e != f || !slices.Equal(left, right) {
		t.Errorf("the product of a sum: %x, %x, %x: %x, %x", a, b, c, left, right)
	}
}

func TestCmpIsKept(t *testing.T) { // P1.4
	for _, a := range samples() {
		for _, b := range samples() {
			for _, c := range samples() {
				holdKept(t, a, b, c)
			}
		}
	}
}

func holdKept(t *testing.T, a, b, c []uint32) {
	t.Helper()
	n, _ := Cmp(a, b)
	x, e := Add(a, c)
	y, f := Add(b, c)
	if m, g := Cmp(x, y); e == api.OK && f == api.OK && (m != n || g != api.OK) {
		t.Errorf("Cmp is not kept by adding: %x, %x, %x", a, b, c)
	}
	if len(c) == 0 {
		return
	}
	x, e = Mul(a, c)
	y, f = Mul(b, c)
	if m, g := Cmp(x, y); e == api.OK && f == api.OK && (m != n || g != api.OK) {
		t.Errorf("Cmp is not kept by a factor: %x, %x, %x", a, b, c)
	}
}

func TestTextThereAndBack(t *testing.T) { // P1.5
	for _, a := range samples() {
		s, e := Text(a)
		b, f := Parse(s)
		if e != api.OK || f != api.OK || !slices.Equal(a, b) {
			t.Errorf("Parse(Text(%x)): %x, %v, %v", a, b, e, f)
		}
	}
	for n := 1; n <= 616; n++ {
		for _, s := range []string{strings.Repeat("9", n), "1" + strings.Repeat("0", n-1), strings.Repeat("8070605040302010", n/16+1)[:n]} {
			a, e := Parse(s)
			b, f := Text(a)
			if e != api.OK || f != api.OK || b != s {
				t.Errorf("Text(Parse(%s)): %s, %v, %v", s, b, e, f)
			}
		}
	}
}

// inRoom is a row with limbs behind its length that nobody may read or change.
func inRoom(a []uint32) []uint32 {
	return append(slices.Clone(a), 3, 1, 4, 1, 5)[:len(a)]
}

func TestArgumentsStay(t *testing.T) { // R5
	for _, a := range append(samples(), wrong()...) {
		for _, b := range [][]uint32{nil, {1}, {full, full}, row(64, full)} {
			x, y := inRoom(a), inRoom(b)
			Right(x)
			Add(x, y)
			Add(y, x)
			Mul(x, y)
			Mul(y, x)
			Cmp(x, y)
			Text(x)
			for _, l := range [][2][]uint32{{x, a}, {y, b}} {
				if whole := l[0][:len(l[1])+5]; !slices.Equal(whole, append(slices.Clone(l[1]), 3, 1, 4, 1, 5)) {
					t.Fatalf("an argument was changed: %x", whole)
				}
			}
		}
	}
}

// spoil writes over all of a list's memory, its spare room too.
func spoil(a []uint32) {
	whole := a[:cap(a)]
	for i := range whole {
		whole[i] = 0xdead
	}
}

func TestAnswersAreNew(t *testing.T) { // R5
	for _, a := range samples() {
		for _, b := range [][]uint32{nil, {1}, {full}} {
			x, y := slices.Clone(a), slices.Clone(b)
			calls := []func() []uint32{
				func() []uint32 { l, _ := Add(x, y); return l },
				func() []uint32 { l, _ := Add(y, x); return l },
				func() []uint32 { l, _ := Mul(x, y); return l },
				func() []uint32 { l, _ := Mul(y, x); return l },
				func() []uint32 { l, _ := Parse(bigOf(a).String()); return l },
				func() []uint32 { return Of(5) },
			}
			for i, call := range calls {
				first, kept := call(), call()
				want := slices.Clone(kept)
				spoil(first)
				if !slices.Equal(kept, want) || !slices.Equal(x, a) || !slices.Equal(y, b) || !slices.Equal(call(), want) {
					t.Errorf("call %d shares what it answers: %x, %x", i, a, b)
				}
			}
		}
	}
}
