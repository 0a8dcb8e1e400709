package tally

import (
	"strconv"
	"strings"

	"bolthole/api"
)

// edgeOf a line, without the byte that ends it; false: it is no edge.
func edgeOf(line string) (api.Edge, bool) {
	words := strings.Split(line, " ")
	if len(words) != 3 {
		return api.Edge{}, false
	}
	from, okFrom := number(words[0])
	to, okTo := number(words[1])
	count, okCount := number(words[2])
	return api.Edge{From: from, To: to, Count: count}, okFrom && okTo && okCount
}

// number that a word tells; false: it tells none that may stand in a tally.
func number(word string) (int, bool) {
	n, err := strconv.Atoi(word)
	// Atoi takes signs and needless zeros, too; Itoa tells none of them for what is not below 0.
	if err != nil || n < 0 || n > api.MaxCount || strconv.Itoa(n) != word {
		return 0, false
	}
	return n, true
}
