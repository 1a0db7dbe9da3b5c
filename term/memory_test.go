package term

import (
	"math"
	"slices"
	"testing"

	"lodestone/api"
)

// inRoom is a copy of a row, with codes behind its length that nobody may read or change.
func inRoom(u []int) []int { return append(slices.Clone(u), 7, -7)[:len(u)] }

func roomKept(u, was []int) bool {
	return slices.Equal(u[:len(was)+2], append(slices.Clone(was), 7, -7))
}

func TestArgumentsStay(t *testing.T) { // R5
	rows := append(someTerms(), nil, row(3), row(9), row(0, 0), tower(512, 0))
	for i, was := range rows {
		other := rows[(i+1)%len(rows)]
		u, v := inRoom(was), inRoom(other)
		Check(all(), u)
		Vars(u)
		for _, do := range calls(v) {
			for _, at := range []int{0, 1, 2, -1, len(u), len(u) - 1} {
				do(all(), u, at)
			}
		}
		if !roomKept(u, was) || !roomKept(v, other) {
			t.Fatalf("an argument was changed: %v, %v", u, v)
		}
	}
}

func TestRoomIsNotRead(t *testing.T) { // R5
	if e := Check(three(), inRoom(row(2, 0))); e != api.ErrTermShort {
		t.Errorf("a code behind the length was read: %v", e)
	}
	if v := Vars(inRoom(row(-1))); !slices.Equal(v, row(0)) {
		t.Errorf("a code behind the length was read: %v", v)
	}
	for _, u := range someTerms() {
		for name, do := range calls(inRoom(row(1, -4))) {
			for at := range u {
				a, e := do(all(), inRoom(u), at)
				b, f := calls(row(1, -4))[name](all(), u, at)
				if e != f || !slices.Equal(a, b) {
					t.Errorf("%s(%v, %d): %v, %v", name, u, at, a, b)
				}
			}
		}
	}
}

// spoil writes over all of a list's memory, its spare room too.
func spoil(l []int) {
	l = l[:cap(l)]
	for i := range l {
		l[i] = 1 << 40
	}
}

func TestAnswersAreNew(t *testing.T) { // R5
	for _, was := range someTerms() {
		u, v := slices.Clone(was), row(2, -1, 0)
		asks := calls(v)
		asks["Vars"] = func(_ []api.Symbol, t []int, _ int) ([]int, api.Errno) { return Vars(t), api.OK }
		for name, do := range asks {
			for at := range u {
				a, e := do(all(), u, at)
				b, f := do(all(), u, at)
				kept := slices.Clone(b)
				spoil(a)
				if e != api.OK || f != api.OK || !slices.Equal(b, kept) || !slices.Equal(u, was) || !slices.Equal(v, row(2, -1, 0)) {
					t.Fatalf("%s(%v, %d): an answer shares its memory", name, was, at)
				}
			}
		}
	}
}

// TestAllArguments holds that no call panics at any arguments, and that beside an error nothing is told.
func TestAllArguments(t *testing.T) { // R1, R2
	sigs := [][]api.Symbol{nil, three(), all(), many(128), make([]api.Symbol, 3), sigOf(sym("f", -5)), sigOf(sym("f", math.MaxInt))}
	rows := [][]int{nil, {0}, {-1}, {1, 1}, {2, 0, 0}, {math.MaxInt}, {math.MinInt}, {8, 8, 8}, {127, 0}, tower(600, 0)}
	for _, sig := range sigs {
		CheckSig(sig)
		for _, u := range rows {
			e := Check(sig, u)
			for _, v := range rows {
				for name, do := range calls(v) {
					for _, at := range []int{0, 1, 2, -1, math.MinInt, math.MaxInt, math.MaxInt - 1} {
						l, f := do(sig, u, at)
						if f != api.OK && len(l) > 0 || e != api.OK && f != e {
							t.Errorf("%s(%v, %v, %d): %v, %v", name, sig, u, at, l, f)
						}
					}
				}
			}
		}
	}
}
