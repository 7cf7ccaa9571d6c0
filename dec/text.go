package dec

import (
	"strconv"
	"strings"

	"oriel/api"
)

// How many digits a number's text may have, ahead of the point and behind it.
const (
	mostAhead  = 15
	mostBehind = partPlaces
)

// Parse reads a number.
func Parse(s string) (int64, bool) {
	digits, below := s, false
	if strings.HasPrefix(s, "-") {
		digits, below = s[1:], true
	}
	ahead, behind, point := strings.Cut(digits, ".")
	if !isDigits(ahead, mostAhead) || len(ahead) > 1 && ahead[0] == '0' {
		return 0, false
	}
	if point && !isDigits(behind, mostBehind) {
		return 0, false
	}
	parts := count(ahead)*api.Scale + count((behind + "0000")[:mostBehind])
	x, code := signed(parts, below)
	if code != api.CodeNone || below && x == 0 {
		return 0, false
	}
	return x, true
}

// isDigits tells whether a text is digits alone, one at least and so many at most.
func isDigits(s string, most int) bool {
	if len(s) < 1 || len(s) > most {
		return false
	}
	for i := range len(s) {
		if s[i] < '0' || s[i] > '9' {
			return false
		}
	}
	return true
}

// count is the number that digits tell.
func count(digits string) uint64 {
	n := uint64(0)
	for i := range len(digits) {
		n = n*10 + uint64(digits[i]-'0')
	}
	return n
}

// Print writes a number.
func Print(x int64) string {
	if !May(x) {
		return ""
	}
	parts := size(x)
	text := strconv.FormatUint(parts/api.Scale, 10)
	if rest := parts % api.Scale; rest != 0 {
		// Scale is added to have the noughts ahead of the rest written too.
		digits := strconv.FormatUint(api.Scale+rest, 10)[1:]
		text += "." + strings.TrimRight(digits, "0")
	}
	if x < 0 {
		return "-" + text
	}
	return text
}
