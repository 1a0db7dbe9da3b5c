package term

import (
	"math"
	"slices"
	"strings"
	"testing"

	"lodestone/api"
)

func TestCheckSigExamples(t *testing.T) { // P3.1
	for i, x := range []struct {
		sig  []api.Symbol
		want api.Errno
	}{
		{sigOf(sym("f#", 1)), api.OK},
		{sigOf(sym("1f", 0)), api.ErrSigName},
		{sigOf(sym("f##", 0)), api.ErrSigName},
		{sigOf(sym("é", 9)), api.ErrSigArity},
		{sigOf(sym("f", 1), sym("f", 2)), api.ErrSigTwice},
		{three(), api.OK},
		{all(), api.OK},
		{nil, api.OK},
		{[]api.Symbol{}, api.OK},
	} {
		if e := CheckSig(x.sig); e != x.want {
			t.Errorf("%d: %v, want %v", i, e, x.want)
		}
	}
}

// TestNames holds a name, and the same one marked, as a symbol's and as that of a symbol behind others.
func TestNames(t *testing.T) { // P3.1
	for _, name := range []string{
		"a", "z", "A", "Z", "m", "M", "f1", "f0", "f9", "x_1'", "a_", "a'", "a''__", "zZ09_'",
		"é", "é1", "aé", "\u0080", "a\u0080", "\u00a0", "λ", "плюс", "加", "٣", "a٣", "\U0001F600", "\U0010FFFF",
		"\uFFFD", "a\uFFFDb", "\u200b", "\ud7ff", "\ue000", "e\u0301", "\ufeff",
		letters(api.MaxName), letters(api.MaxName-1) + "'", strings.Repeat("é", api.MaxName/2), strings.Repeat("\U0001F600", api.MaxName/4),
	} {
		for _, n := range []string{name, name + "#"} {
			if e := CheckSig(sigOf(sym(n, 0))); e != api.OK {
				t.Errorf("%q: %v", n, e)
			}
			if e := CheckSig(append(three(), sym(n, 8))); e != api.OK {
				t.Errorf("%q behind others: %v", n, e)
			}
		}
	}
}

func TestNoNames(t *testing.T) { // P3.1
	for _, name := range []string{
		"", "0", "1f", "9", "_", "_a", "'", "'a", " ", " a", "a ", "a b", "a\n", "\x00", "a\x00", "a\x7f", "\x7f", "a-b", "a.b", "f(", "a,", "`a", "a`", "@", "[", "{", "a@", "a[", "a{", "a/", "a:", "a&",
		"#a", "a#b", "a#'", "#", "a##", "é##",
		"\x80", "\xff", "a\xff", "\xffa", "\xc3", "a\xc3", "\xc3a", "\xa9", "é\xa9", "\xc0\x80", "\xc1\xbf", "\xe0\x80\x80", "\xed\xa0\x80", "\xed\xbf\xbf", "\xf4\x90\x80\x80", "\xf0\x80\x80\x80", "\xf0\x9f\x98", "\xef\xbf", "\xf8\x88\x80\x80\x80",
		letters(api.MaxName + 1), letters(5000), letters(api.MaxName) + "1", strings.Repeat("é", api.MaxName/2) + "a", letters(api.MaxName-1) + "é", letters(api.MaxName-3) + "\U0001F600",
	} {
		for _, n := range []string{name, name + "#", name + "##"} {
			if e := CheckSig(sigOf(sym(n, 0))); e != api.ErrSigName {
				t.Errorf("%q: %v", n, e)
			}
			if e := CheckSig(append(three(), sym(n, 8))); e != api.ErrSigName {
				t.Errorf("%q behind others: %v", n, e)
			}
		}
	}
}

// TestEachByte holds each byte alone, and behind a letter, against the letters, digits and signs that the document lists.
func TestEachByte(t *testing.T) { // P3.1
	const first = "abcdefghijklmnopqrstuvwxyzABCDEFGHIJKLMNOPQRSTUVWXYZ"
	const behind = first + "0123456789_'"
	for b := range 256 {
		c := string([]byte{byte(b)})
		for _, x := range []struct {
			name string
			ok   bool
		}{
			{c, strings.Contains(first, c)},
			{"f" + c, strings.Contains(behind, c) || c == "#"},
			{"f" + c + "g", strings.Contains(behind, c)},
			{"f" + c + "#", strings.Contains(behind, c)},
		} {
			want := api.ErrSigName
			if x.ok {
				want = api.OK
			}
			if e := CheckSig(sigOf(sym(x.name, 0))); e != want {
				t.Errorf("%q: %v, want %v", x.name, e, want)
			}
		}
	}
}

func TestArities(t *testing.T) { // P3.1
	for n := range api.MaxArity + 1 {
		if e := CheckSig(append(three(), sym("f", n))); e != api.OK {
			t.Errorf("%d: %v", n, e)
		}
	}
	for _, n := range []int{-1, -2, api.MaxArity + 1, 100, math.MinInt, math.MaxInt} {
		if e := CheckSig(append(three(), sym("f", n))); e != api.ErrSigArity {
			t.Errorf("%d: %v", n, e)
		}
	}
}

func TestTwice(t *testing.T) { // P3.1
	for i, x := range []struct {
		sig  []api.Symbol
		want api.Errno
	}{
		{sigOf(sym("f", 1), sym("f#", 1), sym("F", 1), sym("f'", 1), sym("ff", 1)), api.OK},
		{sigOf(sym("é", 1), sym("e\u0301", 1)), api.OK},
		{sigOf(sym("f", 1), sym("f", 1)), api.ErrSigTwice},
		{sigOf(sym("f#", 1), sym("f", 1), sym("f#", 0)), api.ErrSigTwice},
		{sigOf(sym("f", 1), sym("g", 1), sym("h", 1), sym("f", 3)), api.ErrSigTwice},
		{append(many(127), sym("f0", 3)), api.ErrSigTwice},
		{append(many(127), sym("f63", 3)), api.ErrSigTwice},
		{append(many(127), sym("f63#", 3)), api.OK},
	} {
		if e := CheckSig(x.sig); e != x.want {
			t.Errorf("%d: %v, want %v", i, e, x.want)
		}
	}
}

func TestHowManySymbols(t *testing.T) { // P3.1
	for _, n := range []int{64, 65, 127, 128} {
		if e := CheckSig(many(n)); e != api.OK {
			t.Errorf("%d symbols: %v", n, e)
		}
	}
	for _, n := range []int{129, 130, 1000} {
		if e := CheckSig(many(n)); e != api.ErrSigMany {
			t.Errorf("%d symbols: %v", n, e)
		}
	}
}

func TestCheckSigWhichFirst(t *testing.T) { // P3.1, R2
	name, arity, twice := sym("1", 0), sym("g", -1), sym("f", 0)
	for i, x := range []struct {
		sig  []api.Symbol
		want api.Errno
	}{
		{make([]api.Symbol, 129), api.ErrSigMany},
		{make([]api.Symbol, 128), api.ErrSigName},
		{append(sigOf(name, arity), many(127)...), api.ErrSigMany},
		{sigOf(sym("1", 9)), api.ErrSigName},
		{sigOf(sym("f", 0), sym("f", 9)), api.ErrSigArity},
		{sigOf(sym("f", 9), sym("f", 9)), api.ErrSigArity},
		{sigOf(sym("1", 0), sym("1", 0)), api.ErrSigName},
		{sigOf(twice, name, arity, twice), api.ErrSigName},
		{sigOf(twice, arity, name, twice), api.ErrSigArity},
		{sigOf(twice, twice, name, arity), api.ErrSigTwice},
		{sigOf(twice, twice, arity), api.ErrSigTwice},
		{sigOf(twice, arity, twice), api.ErrSigArity},
	} {
		if e := CheckSig(x.sig); e != x.want {
			t.Errorf("%d: %v, want %v", i, e, x.want)
		}
	}
}

// TestSigStays holds that a signature is not changed, nor what stands behind its length read or changed.
func TestSigStays(t *testing.T) { // R5
	whole := append(three(), sym("1", 99), sym("zero", 0))
	sig := whole[:3]
	if e := CheckSig(sig); e != api.OK {
		t.Errorf("what stands behind the length was read: %v", e)
	}
	if e := Check(sig, row(3)); e != api.ErrTermCode {
		t.Errorf("a symbol behind the length was read: %v", e)
	}
	for _, do := range calls(row(0)) {
		if _, e := do(sig, row(2, 1, -1, -2), 1); e != api.OK {
			t.Errorf("what stands behind the length was read: %v", e)
		}
	}
	if !slices.Equal(whole, append(three(), sym("1", 99), sym("zero", 0))) {
		t.Errorf("the signature was changed: %v", whole)
	}
}
