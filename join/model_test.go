package join

import (
	"slices"
	"testing"

	"lodestone/api"
	"lodestone/overlap"
)

// partAt is the term at a place.
func partAt(sig []api.Symbol, t []int, at int) []int {
	missing, end := 1, at
	for missing > 0 {
		missing--
		if t[end] >= 0 {
			missing += sig[t[end]].Arity
		}
		end++
	}
	return t[at:end]
}

// plainMatch tells what the variables of a left side are in a term that it matches.
func plainMatch(sig []api.Symbol, left, u []int) (map[int][]int, bool) {
	if left[0] != u[0] { // no left side is a variable
		return nil, false
	}
	binds := map[int][]int{}
	at := 0
	for _, code := range left {
		if code >= 0 && code != u[at] {
			return nil, false
		}
		if code >= 0 {
			at++
			continue
		}
		part := partAt(sig, u, at)
		if b, ok := binds[code]; ok && !slices.Equal(b, part) {
			return nil, false
		}
		binds[code] = part
		at += len(part)
	}
	return binds, true
}

// laid lays terms in the places of variables.
func laid(t []int, binds map[int][]int) []int {
	var u []int
	for _, code := range t {
		if code < 0 {
			u = append(u, binds[code]...)
		} else {
			u = append(u, code)
		}
	}
	return u
}

// plainStep does the first step of the innermost path: of the term at a place the arguments come first, then the term itself. It tells where the term at the place ends, too.
func plainStep(s api.System, t []int, at int) (next []int, end int) {
	if t[at] < 0 {
		return nil, at + 1
	}
	end = at + 1
	for range s.Sig[t[at]].Arity {
		next, end = plainStep(s, t, end)
		if next != nil {
			return next, end
		}
	}
	for _, a := range s.Rules {
		if binds, ok := plainMatch(s.Sig, a.L, t[at:end]); ok {
			return slices.Concat(t[:at], laid(a.R, binds), t[end:]), end
		}
	}
	return nil, end
}

// plainEnd is where the innermost path of a term ends, if nothing on it is too big.
func plainEnd(s api.System, t []int) ([]int, bool) {
	for len(t) <= api.MaxNodes {
		next, _ := plainStep(s, t, 0)
		if next == nil {
			return t, true
		}
		t = next
	}
	return nil, false
}

// plainReport reads the promise.
func plainReport(s api.System) []api.Joint {
	pairs, _ := overlap.All(s)
	var l []api.Joint
	for _, pair := range pairs {
		joint := tooBig(pair)
		if pair.Code == api.OK {
			left, here := plainEnd(s, pair.L)
			right, there := plainEnd(s, pair.R)
			if here && there {
				joint = parts(pair, left, right)
				joint.Joined = slices.Equal(left, right)
			}
		}
		l = append(l, joint)
	}
	return l
}

func plainConfluent(l []api.Joint) bool {
	joined := 0
	for _, j := range l {
		if j.Joined {
			joined++
		}
	}
	return joined == len(l)
}

// asPlain holds a report against the promise.
func asPlain(t *testing.T, c certified) []api.Joint {
	t.Helper()
	want := plainReport(c.s)
	has(t, c, want...)
	whole(t, c, plainConfluent(want))
	return want
}

func TestKnownSystems(t *testing.T) { // P18.1, P18.2
	for _, c := range joinedSystems() {
		asPlain(t, c)
		whole(t, c, true)
	}
	for _, c := range partedSystems() {
		asPlain(t, c)
		whole(t, c, false)
	}
}

// TestDrawnSystems counts the pairs that come to one term, those that do not, and those that are too big.
func TestDrawnSystems(t *testing.T) { // P18.1, P18.2
	joined, apart, big, confluent := 0, 0, 0, 0
	eachDrawn(1, 300, func(_ *random, c certified) {
		l := asPlain(t, c)
		for _, j := range l {
			switch {
			case j.Code != api.OK:
				big++
			case j.Joined:
				joined++
			default:
				apart++
			}
		}
		if len(l) > 0 && Confluent(l) {
			confluent++
		}
	})
	if joined < 500 || apart < 500 || big < 10 || confluent < 40 {
		t.Errorf("%d joined, %d not, %d too big; %d systems of which all are joined", joined, apart, big, confluent)
	}
}
