package text

import (
	"strings"

	"cellar/api"
	"cellar/bounds"
)

// IsName tells whether a text may be the name of an item.
func IsName(s string) bool {
	return bounds.Within(len(s), 1, api.MaxName) && !has(s, '/') && !has(s, 0) && s != "." && s != ".."
}

// IsTarget tells whether a text may be the target of a link.
func IsTarget(s string) bool {
	return bounds.Within(len(s), 1, api.MaxTarget) && !has(s, 0)
}

// has looks at bytes, not at runes: texts are any bytes.
func has(s string, b byte) bool {
	return strings.IndexByte(s, b) >= 0
}
