package text

import (
	"strings"
	"testing"
)

func TestIsDigest(t *testing.T) {
	for _, s := range []string{"000", "001", "fff", "ffe", "0af", "9a0"} {
		if !IsDigest(s) {
			t.Errorf("IsDigest(%q) = false", s)
		}
	}
	for _, s := range []string{"", "0", "00", "0000", "00g", "A00", "0 0", "-01", "00\x00", "\xff\xff\xff", "/00", ":00", "`00", "00é", strings.Repeat("0", 3000000)} {
		if IsDigest(s) {
			t.Errorf("IsDigest(%.20q) = true", s)
		}
	}
}

func TestIsName(t *testing.T) {
	for _, s := range []string{"a", " ", "\n", "\xff", "\x01", "...", ".a", "..a", "a.", "a..", "\\", "é", "twelve-bytes", strings.Repeat("\x80", 12)} {
		if !IsName(s) {
			t.Errorf("IsName(%q) = false", s)
		}
	}
	for _, s := range []string{"", ".", "..", "/", "\x00", "a/b", "/a", "a/", "\xff/", "a\x00b", "\x00a", "a\x00", "thirteen-byte", "twelve-byte/", strings.Repeat("é", 7), strings.Repeat("n", 1000000)} {
		if IsName(s) {
			t.Errorf("IsName(%.20q) = true", s)
		}
	}
}

func TestIsTarget(t *testing.T) {
	for _, s := range []string{"x", "/", ".", "..", "../x", "//", "\xff", strings.Repeat("t", 30)} {
		if !IsTarget(s) {
			t.Errorf("IsTarget(%q) = false", s)
		}
	}
	for _, s := range []string{"", "\x00", "a\x00", "\x00a", "\xff\x00", strings.Repeat("t", 29) + "\x00", strings.Repeat("t", 31), strings.Repeat("t", 1000000)} {
		if IsTarget(s) {
			t.Errorf("IsTarget(%.20q) = true", s)
		}
	}
}
