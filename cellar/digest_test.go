package cellar_test

import (
	"math/big"
	"strings"
	"testing"

	"cellar/api"
	"cellar/cellar"
)

// slowDigest reckons with whole numbers and takes the rest once, at the end.
func slowDigest(s string) string {
	n := big.NewInt(1)
	for i := range len(s) {
		n.Mul(n, big.NewInt(api.Factor))
		n.Add(n, big.NewInt(int64(s[i])+1))
	}
	n.Mod(n, big.NewInt(api.Prime))
	d := n.Text(16)
	return strings.Repeat("0", 3-len(d)) + d
}

func TestDigestOfExamples(t *testing.T) {
	for _, c := range []struct{ blob, want string }{
		{"", "001"}, {"a", "169"}, {"T\x00", "5c7"}, {"\x00", "108"}, {"\xff", "207"},
	} {
		if got := cellar.Digest(c.blob); got != c.want {
			t.Errorf("P3: Digest(%q) = %q, want %q", c.blob, got, c.want)
		}
	}
}

func TestDigestOfShortTexts(t *testing.T) {
	for a := range 256 {
		for b := range 256 {
			s := string([]byte{byte(a), byte(b)})
			if got, want := cellar.Digest(s), slowDigest(s); got != want {
				t.Fatalf("P3: Digest(%q) = %q, want %q", s, got, want)
			}
		}
	}
}

func TestDigestOfLongTexts(t *testing.T) {
	for _, s := range []string{
		"hello, cellar", "é\xc3\x28", strings.Repeat("\x00", 999), strings.Repeat("\xff", 2001), strings.Repeat("ab\xfe", 5000),
	} {
		if got, want := cellar.Digest(s), slowDigest(s); got != want {
			t.Errorf("P3: Digest(%.20q) = %q, want %q", s, got, want)
		}
	}
	// Factor has the order of a divisor of Prime-1, so that many bytes 0 come round.
	round := strings.Repeat("\x00", api.Prime-1)
	if got := cellar.Digest(strings.Repeat(round, 2000)); got != "001" {
		t.Errorf("P1, P3: Digest of %d bytes 0 = %q, want 001", 2000*len(round), got)
	}
}

func TestDigestsMeet(t *testing.T) {
	if a, b := cellar.Digest("0\x05"), cellar.Digest("?\x99"); a != b {
		t.Errorf("P3: different texts with one digest: %q, %q", a, b)
	}
}
