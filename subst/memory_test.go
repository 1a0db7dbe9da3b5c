package subst

import (
	"math"
	"slices"
	"testing"

	"lodestone/api"
)

// inRoom is a copy of a row, with codes behind its length that nobody may read or change.
func inRoom(u []int) []int { return append(slices.Clone(u), 7, -7)[:len(u)] }

func roomKept(u, was []int) bool {
	return slices.Equal(u[:len(was)+2], append(slices.Clone(was), 7, -7))
}

// bindsInRoom are copies of binds, with a bind behind their length.
func bindsInRoom(s []api.Bind) []api.Bind {
	l := make([]api.Bind, 0, len(s)+1)
	for _, b := range s {
		l = append(l, api.Bind{Var: b.Var, T: inRoom(b.T)})
	}
	return append(l, bind(-5, 99))[:len(s)]
}

func bindsKept(s, was []api.Bind) bool {
	for i, b := range s {
		if b.Var != was[i].Var || !roomKept(b.T, was[i].T) {
			return false
		}
	}
	behind := s[:len(s)+1][len(s)]
	return len(s) == len(was) && behind.Var == -5 && slices.Equal(behind.T, row(99))
}

func TestArgumentsStay(t *testing.T) { // R5
	r := random(9)
	for range 200 {
		was, wasT := r.binds(), r.term(1+r.below(30))
		if r.below(4) == 0 {
			was = append(was, bind(r.below(9)-1, 1))
		}
		s, u := bindsInRoom(was), inRoom(wasT)
		rows := [][]int{u, inRoom(wasT), nil}
		Check(all(), s)
		Apply(all(), s, u)
		Shift(u, 3)
		Shift(u, -1)
		Canon(rows...)
		if !bindsKept(s, was) || !roomKept(u, wasT) {
			t.Fatalf("an argument was changed: %v, %v", s, u)
		}
		if &rows[0][0] != &u[0] || !roomKept(rows[1], wasT) || rows[2] != nil {
			t.Fatalf("the list of rows was changed: %v", rows)
		}
	}
}

func TestRoomIsNotRead(t *testing.T) { // R5
	if e := Check(three(), bindsInRoom(binds(bind(0, 0)))); e != api.OK {
		t.Errorf("a bind behind the length was read: %v", e)
	}
	if e := Check(three(), bindsInRoom(binds(bind(0, 2, 0)))); e != api.ErrTermShort {
		t.Errorf("a code behind the length was read: %v", e)
	}
	r := random(10)
	for range 200 {
		s, u := r.binds(), r.term(1+r.below(20))
		if v := apply(t, bindsInRoom(s), inRoom(u)); !slices.Equal(v, apply(t, s, u)) {
			t.Fatalf("Apply(%v; %v): %v", s, u, v)
		}
		if l := Canon(inRoom(u), inRoom(u)); !sameRows(l, Canon(u, u)) {
			t.Fatalf("Canon(%v): %v", u, l)
		}
	}
	if v := shift(t, inRoom(row(2, -1)), api.MaxVar-1); !slices.Equal(v, row(2, -api.MaxVar)) {
		t.Errorf("Shift: %v", v)
	}
}

// spoil writes over all of a list's memory, its spare room too.
func spoil(l []int) {
	l = l[:cap(l)]
	for i := range l {
		l[i] = 1 << 40
	}
}

// TestAnswersAreNew spoils one answer, and holds that no argument and no other answer has changed.
func TestAnswersAreNew(t *testing.T) { // R5
	r := random(11)
	for range 200 {
		was, wasT := r.binds(), r.term(1+r.below(20))
		s, u := bindsInRoom(was), inRoom(wasT)
		asks := map[string]func() []int{
			"Apply":              func() []int { return apply(t, s, u) },
			"Apply of no binds":  func() []int { return apply(t, nil, u) },
			"Apply of a bind":    func() []int { return apply(t, binds(bind(4, u...)), row(-5)) },
			"Apply to variables": func() []int { return apply(t, s, row(-1)) },
			"Shift":              func() []int { v, _ := Shift(u, 1); return v },
			"Shift by nothing":   func() []int { return shift(t, u, 0) },
			"Canon":              func() []int { return Canon(u)[0] },
		}
		for name, ask := range asks {
			a, b := ask(), ask()
			kept := slices.Clone(b)
			spoil(a)
			if !slices.Equal(b, kept) || !bindsKept(s, was) || !roomKept(u, wasT) {
				t.Fatalf("%s of %v; %v: an answer shares its memory", name, was, wasT)
			}
		}
	}
}

func TestRowsOfCanonAreApart(t *testing.T) { // R5
	for _, l := range someRows() {
		for i := range l {
			got, other := Canon(l...), Canon(l...)
			want := Canon(l...)
			spoil(got[i])
			for j := range got {
				if j != i && !slices.Equal(got[j], want[j]) || !slices.Equal(other[j], want[j]) {
					t.Fatalf("Canon(%v): the rows %d and %d share memory", l, i, j)
				}
			}
			got = got[:cap(got)]
			clear(got)
			if !sameRows(other, want) {
				t.Fatalf("Canon(%v): two answers share memory", l)
			}
		}
	}
	u := row(1, -4)
	l := Canon(u, u, u)
	spoil(l[0])
	if !sameRows(l[1:], [][]int{{1, -1}, {1, -1}}) || !slices.Equal(u, row(1, -4)) {
		t.Errorf("one row, three times: %v", l)
	}
}

// TestAllArguments holds that no call panics at any arguments, and that beside an error nothing is told.
func TestAllArguments(t *testing.T) { // R1, R2
	sigs := [][]api.Symbol{nil, three(), all(), many(128), make([]api.Symbol, 3), {sym("f", -5)}, {sym("f", math.MaxInt)}}
	rows := [][]int{nil, {}, {0}, {-1}, {1, 1}, {2, 0, -1}, {math.MaxInt}, {math.MinInt}, {8, 8, 8}, tower(600, -1)}
	numbers := []int{0, 1, -1, api.MaxVar - 1, api.MaxVar, math.MinInt, math.MaxInt}
	var lists [][]api.Bind
	for _, v := range numbers {
		for _, u := range rows {
			lists = append(lists, binds(bind(v, u...)), binds(bind(0, -1), bind(v, u...)))
		}
	}
	lists = append(lists, nil, make([]api.Bind, 3))
	for _, sig := range sigs {
		for _, s := range lists {
			e := Check(sig, s)
			for _, u := range rows {
				v, f := Apply(sig, s, u)
				if f != api.OK && len(v) > 0 || e != api.OK && f != e || f == api.OK && (len(v) == 0 || len(v) > api.MaxNodes) {
					t.Fatalf("Apply(%v, %v; %v): %v, %v", sig, s, u, v, f)
				}
			}
		}
	}
	for _, u := range rows {
		for _, by := range numbers {
			if v, e := Shift(u, by); e != api.OK && len(v) > 0 || e == api.OK && len(v) != len(u) {
				t.Errorf("Shift(%v, %d): %v, %v", u, by, v, e)
			}
		}
	}
	if l := Canon(rows...); len(l) != len(rows) {
		t.Errorf("Canon: %d rows", len(l))
	}
}
