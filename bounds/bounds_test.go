package bounds

import (
	"math"
	"testing"
)

func TestWithin(t *testing.T) {
	for _, c := range []struct {
		n, low, high int
		want         bool
	}{
		{1, 1, 12, true}, {12, 1, 12, true}, {7, 1, 12, true}, {3, 3, 3, true},
		{0, 1, 12, false}, {13, 1, 12, false}, {-1, 0, 2000, false},
		{math.MinInt, 0, 2000, false}, {math.MaxInt, 0, 2000, false},
		{2, 3, 1, false},
	} {
		if got := Within(c.n, c.low, c.high); got != c.want {
			t.Errorf("Within(%d, %d, %d) = %t", c.n, c.low, c.high, got)
		}
	}
}
