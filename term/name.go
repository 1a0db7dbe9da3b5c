package term

import (
	"slices"
	"strings"
	"unicode/utf8"

	"lodestone/api"
)

func isSymbolName(s string) bool {
	return isName(strings.TrimSuffix(s, "#"))
}

func isName(s string) bool {
	// A range gives a byte that is no UTF-8 the rune U+FFFD, which is a letter where it is spelt out: so such bytes are seen ahead.
	if s == "" || len(s) > api.MaxName || !utf8.ValidString(s) {
		return false
	}
	for i, r := range s {
		if !isLetter(r) && (i == 0 || !followsLetter(r)) {
			return false
		}
	}
	return true
}

func isLetter(r rune) bool {
	return 'a' <= r && r <= 'z' || 'A' <= r && r <= 'Z' || r >= utf8.RuneSelf
}

func followsLetter(r rune) bool {
	return '0' <= r && r <= '9' || r == '_' || r == '\''
}

func hasName(sig []api.Symbol, name string) bool {
	return slices.ContainsFunc(sig, func(s api.Symbol) bool { return s.Name == name })
}
