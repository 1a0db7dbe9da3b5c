package pairs

import (
	"slices"
	"strconv"
	"strings"
	"testing"

	"lodestone/api"
	"lodestone/system"
	"lodestone/term"
)

func TestExtendExamples(t *testing.T) { // P13.1
	extends(t, three(), sym("zero", 0), sym("s", 1), sym("plus", 2), sym("zero#", 0), sym("s#", 1), sym("plus#", 2))
	extends(t, nil)
	extends(t, []api.Symbol{})
	extends(t, []api.Symbol{sym("é", 8)}, sym("é", 8), sym("é#", 8))
	extends(t, []api.Symbol{sym("b", 1), sym("a", 3), sym("b'", 0)}, sym("b", 1), sym("a", 3), sym("b'", 0), sym("b#", 1), sym("a#", 3), sym("b'#", 0))
}

// TestExtendedCodes holds of each number of symbols that may be that the extended signature is right, and where each code stands.
func TestExtendedCodes(t *testing.T) { // P13.1
	for n := range api.MaxSymbols + 1 {
		sig := many(n)
		got, e := Extend(sig)
		if e != api.OK || len(got) != 2*n || !slices.Equal(got[:n], sig) {
			t.Fatalf("Extend of %d symbols: %v, %v", n, got, e)
		}
		for c, s := range sig {
			if got[c+n] != sym(s.Name+"#", s.Arity) {
				t.Errorf("the marked one of %d of %d: %v", c, n, got[c+n])
			}
		}
		if e := term.CheckSig(got); e != api.OK {
			t.Errorf("CheckSig of %d extended symbols: %v", n, e)
		}
		if n > 0 {
			extendsNot(t, got, atMost(2*n, api.ErrSigName))
		}
	}
}

// atMost is an error for as many symbols as may be, and else the one of too many.
func atMost(n int, e api.Errno) api.Errno {
	if n > api.MaxSymbols {
		return api.ErrSigMany
	}
	return e
}

func TestTooManySymbols(t *testing.T) { // P13.1
	for n := api.MaxSymbols + 1; n < 2*api.MaxSymbols+10; n++ {
		extendsNot(t, many(n), api.ErrSigMany)
	}
}

// TestLongNames: the mark does not count among a name's bytes.
func TestLongNames(t *testing.T) { // P13.1
	long := strings.Repeat("a", api.MaxName)
	extends(t, []api.Symbol{sym(long, 1)}, sym(long, 1), sym(long+"#", 1))
	extendsNot(t, []api.Symbol{sym(long+"a", 1)}, api.ErrSigName)
	extendsNot(t, []api.Symbol{sym(long+"#", 1)}, api.ErrSigName)
	long = strings.Repeat("é", api.MaxName/2)
	extends(t, []api.Symbol{sym(long, 1)}, sym(long, 1), sym(long+"#", 1))
}

func TestWrongSignatures(t *testing.T) { // P13.1, R3
	for at := range 4 {
		for _, name := range []string{"", "1", "#", "f##", "f#g", "f g", "\xff", "a\xc3", "f.", strings.Repeat("f", api.MaxName+1)} {
			extendsNot(t, slices.Insert(three(), at, sym(name, 1)), api.ErrSigName)
		}
		for _, arity := range []int{-1, 9, -1 << 63, 1<<63 - 1} {
			extendsNot(t, slices.Insert(three(), at, sym("f", arity)), api.ErrSigArity)
		}
		extendsNot(t, slices.Insert(three(), at, sym("s", 1)), api.ErrSigTwice)
		for _, name := range []string{"f#", "s#", "plus#", "é#"} {
			extendsNot(t, slices.Insert(three(), at, sym(name, 1)), api.ErrSigName)
		}
	}
}

// TestWhichFaultIsFirst: all that term.CheckSig tells goes ahead of too many symbols, and that ahead of marked ones.
func TestWhichFaultIsFirst(t *testing.T) { // P13.1, R2
	for _, n := range []int{1, 3, api.MaxSymbols, 2*api.MaxSymbols - 1} {
		extendsNot(t, append(many(n), sym("1", 1)), api.ErrSigName)
		extendsNot(t, append(many(n), sym("f", 9)), api.ErrSigArity)
		extendsNot(t, append(many(n), sym("f0", 1)), api.ErrSigTwice)
		extendsNot(t, append(many(n), sym("f#", 1)), atMost(n+1, api.ErrSigName))
	}
	tooMany := 2 * api.MaxSymbols
	extendsNot(t, append(many(tooMany), sym("1", 1)), api.ErrSigMany)
	extendsNot(t, append(many(tooMany), sym("f", 9)), api.ErrSigMany)
	extendsNot(t, append(many(tooMany), sym("f0", 1)), api.ErrSigMany)
	extendsNot(t, []api.Symbol{sym("f#", 1), sym("g", 9)}, api.ErrSigArity)
	extendsNot(t, []api.Symbol{sym("f#", 1), sym("g", 1), sym("g", 2)}, api.ErrSigTwice)
	extendsNot(t, []api.Symbol{sym("f#", 1), sym("f#", 1)}, api.ErrSigTwice)
	extendsNot(t, []api.Symbol{sym("f#", 9)}, api.ErrSigArity)
	extendsNot(t, []api.Symbol{sym("f", 9), sym("1", 9)}, api.ErrSigArity)
	extendsNot(t, []api.Symbol{sym("1", 9), sym("f", 9)}, api.ErrSigName)
}

// TestSignaturesOfSystems: a signature that may be extended is one that a system may have.
func TestSignaturesOfSystems(t *testing.T) { // P13.1
	r := random(1)
	right := 0
	for range 3000 {
		var sig []api.Symbol
		for i := range r.below(80) {
			sig = append(sig, sym("f"+strconv.Itoa(i), r.below(9)))
		}
		for range r.below(3) {
			if len(sig) > 0 {
				sig[r.below(len(sig))] = []api.Symbol{sym("f0", 1), sym("f0#", 1), sym("g#", 2), sym("g", 9), sym("_", 0), sym("h", 3)}[r.below(6)]
			}
		}
		got, e := Extend(sig)
		want, _ := system.Check(api.System{Sig: sig})
		if e != want || e == api.OK && len(got) != 2*len(sig) {
			t.Fatalf("Extend(%v): %v, and as a system's: %v", sig, e, want)
		}
		if e == api.OK {
			right++
		}
	}
	if right < 500 || right > 2500 {
		t.Errorf("%d signatures were right", right)
	}
}
