package match

import (
	"slices"
	"testing"

	"lodestone/api"
)

// variants holds what Variant answers over three, either way round.
func variants(t *testing.T, a, b api.Rule, want bool) {
	t.Helper()
	if Variant(three(), a, b) != want || Variant(three(), b, a) != want {
		t.Errorf("Variant(%v, %v): not %v", a, b, want)
	}
}

func TestVariantExamples(t *testing.T) { // P5.2
	a := rule(row(2, -1, -2), row(-1))
	variants(t, a, rule(row(2, -7, -3), row(-7)), true)
	variants(t, a, rule(row(2, -7, -3), row(-3)), false)
	variants(t, a, rule(row(2, -1, -1), row(-1)), false)
}

func TestVariantOfRightSidesAlone(t *testing.T) { // P5.2
	a := rule(row(2, -1, -2), row(1, -1))
	for _, r := range [][]int{{1, -2}, {-1}, {0}, {1, 0}, {1, 1, -1}, {2, -1, -1}, {1, -3}} {
		variants(t, a, rule(a.L, r), false)
	}
	variants(t, a, rule(row(2, -2, -1), row(1, -2)), true)
	variants(t, a, rule(row(2, -2, -1), row(1, -1)), false)
}

func TestVariantOfLeftSidesAlone(t *testing.T) { // P5.2
	a := rule(row(2, -1, -2), row(0))
	for _, l := range [][]int{{2, -1, -1}, {2, -1, 0}, {2, 0, -1}, {-1}, {1, -1}, {2, 1, -1, -2}, {2, -1, 1, -2}} {
		variants(t, a, rule(l, row(0)), false)
	}
	variants(t, a, rule(row(2, -2, -1), row(0)), true)
}

// TestVariantGivesUnlikeNames: a renaming that makes two variables one is none, whichever rule has the two.
func TestVariantGivesUnlikeNames(t *testing.T) { // P5.2
	variants(t, rule(row(2, -1, -2), row(0)), rule(row(2, -3, -3), row(0)), false)
	variants(t, rule(row(2, -1, 2, -2, -3), row(0)), rule(row(2, -1, 2, -2, -1), row(0)), false)
	variants(t, rule(row(1, -1), row(1, -2)), rule(row(1, -1), row(1, -1)), false)
	variants(t, rule(row(1, -1), row(1, -2)), rule(row(1, -2), row(1, -2)), false)
	variants(t, rule(row(2, -1, -2), row(2, -2, -1)), rule(row(2, -1, -2), row(2, -1, -2)), false)
	variants(t, rule(row(2, -1, -2), row(2, -2, -1)), rule(row(2, -2, -1), row(2, -1, -2)), true)
}

func TestVariantOfVariablesOnTheRightAlone(t *testing.T) { // P5.2
	variants(t, rule(row(0), row(-1)), rule(row(0), row(-9)), true)
	variants(t, rule(row(1, -1), row(-2)), rule(row(1, -2), row(-1)), true)
	variants(t, rule(row(1, -1), row(-2)), rule(row(1, -1), row(-api.MaxVar)), true)
	variants(t, rule(row(1, -1), row(-2)), rule(row(1, -1), row(-1)), false)
	variants(t, rule(row(1, -1), row(2, -2, -3)), rule(row(1, -3), row(2, -1, -2)), true)
	variants(t, rule(row(1, -1), row(2, -2, -3)), rule(row(1, -1), row(2, -2, -2)), false)
	variants(t, rule(row(1, -1), row(2, -2, -1)), rule(row(1, -1), row(2, -1, -2)), false)
	variants(t, rule(row(-1), row(-1)), rule(row(-4), row(-4)), true)
	variants(t, rule(row(-1), row(-2)), rule(row(-4), row(-4)), false)
}

func TestVariantIsNotTurnedRound(t *testing.T) { // P5.2
	variants(t, rule(row(0), row(1, -1)), rule(row(1, -1), row(0)), false)
	// the same codes in all, but the sides part elsewhere
	variants(t, rule(row(1, 0), row(0)), rule(row(0), row(1, 0)), false)
	variants(t, rule(row(-1), row(1, -1)), rule(row(1, -1), row(-1)), false)
}

// renamed gives the variables 0, 1 and 2 other names.
func renamed(a api.Rule, names [3]int) api.Rule {
	s := binds(bind(0, -1-names[0]), bind(1, -1-names[1]), bind(2, -1-names[2]))
	return rule(made(s, a.L), made(s, a.R))
}

// TestVariantIsAsSaid tries all renamings of all small rules.
func TestVariantIsAsSaid(t *testing.T) { // P5.2
	names := [][3]int{{0, 1, 2}, {0, 2, 1}, {1, 0, 2}, {1, 2, 0}, {2, 0, 1}, {2, 1, 0}}
	rules := smallRules(3, 2)
	for _, a := range rules {
		var l []api.Rule
		for _, n := range names {
			l = append(l, renamed(a, n))
		}
		for _, b := range rules {
			want := slices.ContainsFunc(l, func(c api.Rule) bool { return slices.Equal(c.L, b.L) && slices.Equal(c.R, b.R) })
			if Variant(three(), a, b) != want {
				t.Fatalf("Variant(%v, %v): not %v", a, b, want)
			}
		}
	}
}

// TestVariantOfDrawnRules renames drawn rules, to unlike names, and then with two names made one.
func TestVariantOfDrawnRules(t *testing.T) { // P5.2
	r := random(1)
	merged := 0
	for range 500 {
		a := rule(r.term(1+r.below(40)), r.term(1+r.below(40)))
		b := r.renamed(a)
		if !Variant(all(), a, b) || !Variant(all(), b, a) {
			t.Fatalf("Variant(%v, %v): false", a, b)
		}
		names := varsOf(slices.Concat(b.L, b.R))
		if len(names) < 2 {
			continue
		}
		merged++
		s := binds(bind(names[0], -1-names[1]))
		if c := rule(made(s, b.L), made(s, b.R)); Variant(all(), a, c) || Variant(all(), c, a) {
			t.Fatalf("Variant(%v, %v): true", a, c)
		}
	}
	if merged < 300 {
		t.Errorf("only %d rules had two variables", merged)
	}
}

func TestVariantOfGreatRules(t *testing.T) { // P5.2, R1
	variants(t, rule(tower(600, -1), tower(700, -2)), rule(tower(600, -5), tower(700, -3)), true)
	variants(t, rule(tower(600, -1), tower(700, -2)), rule(tower(600, -5), tower(700, -5)), false)
	variants(t, rule(tower(600, -1), tower(700, -1)), rule(tower(600, -1), tower(701, -1)), false)
	variants(t, rule(tower(1<<16, -1), row(0)), rule(tower(1<<16, -2), row(0)), true)
}

// TestVariantOfWrongInput has a fault in one of the four rows, in both rules' like ones, and in all.
func TestVariantOfWrongInput(t *testing.T) { // P5.2, R3
	good := row(2, -1, 0)
	for _, sig := range badSigs() {
		for _, u := range [][]int{good, {-1}, {0}} {
			if a := rule(u, u); Variant(sig, a, a) {
				t.Errorf("Variant(%v; %v): true", sig, u)
			}
		}
	}
	for _, bad := range badRows() {
		for _, a := range []api.Rule{rule(bad, good), rule(good, bad), rule(bad, bad)} {
			variants(t, a, a, false)
			variants(t, a, rule(good, good), false)
		}
		variants(t, rule(bad, good), rule(good, bad), false)
	}
	// of a row that is none for its last code alone
	variants(t, rule(good, row(-api.MaxVar-1)), rule(good, row(-2)), false)
	variants(t, rule(row(-api.MaxVar-1), good), rule(row(-2), good), false)
	a := rule(row(0), row(0))
	if Variant(nil, a, a) {
		t.Errorf("a symbol, without symbols: true")
	}
	if a = rule(row(-1), row(-2)); !Variant(nil, a, a) {
		t.Errorf("variables, without symbols: false")
	}
}
