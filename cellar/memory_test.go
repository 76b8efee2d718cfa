package cellar_test

import (
	"maps"
	"slices"
	"strings"
	"testing"

	"cellar/api"
	"cellar/cellar"
)

// spared is l with some room behind it, which is filled so that writing there shows.
func spared(l []api.Item) []api.Item {
	room := append(slices.Clone(l), link("spare", "room"), file("spare", 7), api.Item{Kind: -1})
	return room[:len(l)]
}

func whole(l []api.Item) []api.Item { return l[:cap(l)] }

func TestEncodeWritesNothing(t *testing.T) {
	lists := slices.Collect(maps.Values(noDirectories()))
	for _, c := range directories() {
		lists = append(lists, c.l)
	}
	for _, l := range lists {
		given := spared(l)
		before := slices.Clone(whole(given))
		cellar.Encode(given)
		if !slices.Equal(whole(given), before) {
			t.Errorf("P2: Encode of %d items wrote into what it was given", len(l))
		}
	}
}

func TestEncodeKeepsNothing(t *testing.T) {
	given := []api.Item{file("a", 5), link("b", "x")}
	first, _ := cellar.Encode(given)
	copied := strings.Clone(first)
	given[0] = file("A", 6)
	second, e := cellar.Encode(given)
	if first != copied {
		t.Errorf("P2: the first answer became %q", first)
	}
	if want := "T\x02\x01\x01A0af\x06\x00\x03\x01b\x01x"; second != want || e != api.OK {
		t.Errorf("P2: Encode of the changed list = %q, %d", second, e)
	}
}

func TestDecodeAnswersNewMemory(t *testing.T) {
	for _, c := range directories() {
		first, _ := cellar.Decode(c.bytes)
		second, _ := cellar.Decode(c.bytes)
		for i := range whole(first) {
			whole(first)[i] = link("changed", "by the caller")
		}
		if !slices.Equal(second, c.l) {
			t.Errorf("P2: another answer was changed: %#v", second)
		}
		second = append(second, link("second", "x"))
		first = append(first[:len(c.l)], link("first", "x"))
		if second[len(c.l)].Name != "second" {
			t.Errorf("P2: two answers share their spare room (%d items)", len(c.l))
		}
		if third, e := cellar.Decode(c.bytes); !slices.Equal(third, c.l) || e != api.OK {
			t.Errorf("P2: a later answer was changed: %#v, %d", third, e)
		}
	}
}

func TestAnswersHangOnArguments(t *testing.T) {
	for range 2 {
		for _, c := range directories() {
			cellar.Decode("T\x01\x03")
			cellar.Encode(full(41))
			if got := cellar.Digest(c.bytes); got != slowDigest(c.bytes) {
				t.Errorf("P2: Digest(%q) = %q", c.bytes, got)
			}
			if got, e := cellar.Encode(c.l); got != c.bytes || e != api.OK {
				t.Errorf("P2: Encode(%#v) = %q, %d", c.l, got, e)
			}
			if got, e := cellar.Decode(c.bytes); !slices.Equal(got, c.l) || e != api.OK {
				t.Errorf("P2: Decode(%q) = %#v, %d", c.bytes, got, e)
			}
		}
	}
}

func TestEncodeOfAVeryLongList(t *testing.T) {
	if got, e := cellar.Encode(make([]api.Item, 1000000)); got != "" || e != api.ErrBytes {
		t.Errorf("P1, P4: Encode of a million items = %q, %d", got, e)
	}
}
