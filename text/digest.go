// Package text has the digest, and tells which texts are digests, names and targets.
package text

import (
	"strings"

	"cellar/api"
)

// DigestLength is how many bytes each digest has.
const DigestLength = 3

const digits = "0123456789abcdef"

// Digest is that of a text.
func Digest(blob string) string {
	s := 1
	for i := range len(blob) {
		// Reduced at each byte, so that no length of text makes the number wrap round.
		s = (s*api.Factor + int(blob[i]) + 1) % api.Prime
	}
	return string([]byte{digits[s/256], digits[s/16%16], digits[s%16]})
}

// IsDigest tells whether a text is written as a digest; it need not be that of any text.
func IsDigest(s string) bool {
	if len(s) != DigestLength {
		return false
	}
	for i := range len(s) {
		if strings.IndexByte(digits, s[i]) < 0 {
			return false
		}
	}
	return true
}
