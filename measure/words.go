package measure

import (
	"iter"
	"strings"
)

// words yields what stands between the spaces of a line, of which the empty
// one has nothing.
func words(s string) iter.Seq[string] {
	return func(yield func(string) bool) {
		rest, more := s, s != ""
		for more {
			var word string
			word, rest, more = strings.Cut(rest, " ")
			if !yield(word) {
				return
			}
		}
	}
}

// consists tells if s is not empty, and all of its bytes are of a kind.
func consists(s string, isOfKind func(byte) bool) bool {
	for i := range len(s) {
		if !isOfKind(s[i]) {
			return false
		}
	}
	return s != ""
}

func isPrinted(c byte) bool { return c >= 33 && c <= 126 }
func isDigit(c byte) bool   { return c >= '0' && c <= '9' }

func isLetterOrDigit(c byte) bool {
	return isDigit(c) || c >= 'a' && c <= 'z' || c >= 'A' && c <= 'Z'
}
