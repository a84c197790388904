package reader

import (
	"strconv"
	"strings"

	"folio/api"
	"folio/number"
)

const (
	mostWholeDigits = 10
	mostRealDigits  = 9 // on either side of the point
)

// wholeNumber answers what a word means as a whole number, and whether it is one.
func wholeNumber(word string) (int, bool) {
	_, digits := cutSign(word)
	n, err := strconv.Atoi(word)
	return n, err == nil && number.Within(len(digits), 1, mostWholeDigits)
}

// realNumber answers what a word means as a real.
func realNumber(word string) api.Value {
	sign, digits := cutSign(word)
	ahead, behind, pointed := strings.Cut(digits, ".")
	must(pointed && number.Within(max(len(ahead), len(behind)), 1, mostRealDigits))
	behind = strings.TrimRight(behind, "0")
	n, err := strconv.Atoi(sign + "0" + ahead + behind) // with a 0, as no other digit may be left
	must(err == nil)
	return api.Value{Kind: api.Real, N: n, Places: len(behind)}
}

func cutSign(word string) (sign, rest string) {
	if strings.HasPrefix(word, "+") || strings.HasPrefix(word, "-") {
		return word[:1], word[1:]
	}
	return "", word
}
