package cellar_test

import (
	"maps"
	"slices"
	"strings"
	"testing"
	"unsafe"

	"cellar/api"
	"cellar/cellar"
)

// roomy is l with some room behind it, which is filled so that writing there shows.
func roomy[T any](l []T, spare ...T) []T {
	return append(slices.Clone(l), spare...)[:len(l)]
}

func spared(l []api.Item) []api.Item {
	return roomy(l, link("spare", "room"), file("spare", 7), api.Item{Kind: -1})
}

func sparedTree(l []api.Entry) []api.Entry {
	return roomy(l, linkAt("spare", "room"), fileAt("spare", "x"), api.Entry{Kind: -1})
}

func whole[T any](l []T) []T { return l[:cap(l)] }

// within tells whether a text lies in the memory of another.
func within(part, s string) bool {
	if len(part) == 0 || len(s) == 0 {
		return false
	}
	at, from := uintptr(unsafe.Pointer(unsafe.StringData(part))), uintptr(unsafe.Pointer(unsafe.StringData(s)))
	return from <= at && at < from+uintptr(len(s))
}

// untouched asks that a call writes nowhere into a list that has spare room.
func untouched[T comparable](t *testing.T, what string, given []T, call func([]T)) {
	t.Helper()
	before := slices.Clone(whole(given))
	call(given)
	if !slices.Equal(whole(given), before) {
		t.Errorf("P2: %s of a list of %d wrote into what it was given", what, len(given))
	}
}

func TestEncodeWritesNothing(t *testing.T) {
	lists := slices.Collect(maps.Values(noDirectories()))
	for _, c := range directories() {
		lists = append(lists, c.l)
	}
	for _, l := range lists {
		untouched(t, "Encode", spared(l), func(l []api.Item) { cellar.Encode(l) })
	}
}

func TestEncodeKeepsNothing(t *testing.T) {
	given := []api.Item{file("a", 5), link("b", "x")}
	first, _ := cellar.Encode(given)
	copied := strings.Clone(first)
	given[0] = file("A", 6)
	second, e := cellar.Encode(given)
	if first != copied {
		t.Errorf("P2: the first answer became %q", first)
	}
	if want := "T\x02\x01\x01A0af\x06\x00\x03\x01b\x01x"; second != want || e != api.OK {
		t.Errorf("P2: Encode of the changed list = %q, %d", second, e)
	}
}

func TestDecodeAnswersNewMemory(t *testing.T) {
	for _, c := range directories() {
		first, _ := cellar.Decode(c.bytes)
		second, _ := cellar.Decode(c.bytes)
		for i := range whole(first) {
			whole(first)[i] = link("changed", "by the caller")
		}
		if !slices.Equal(second, c.l) {
			t.Errorf("P2: another answer was changed: %#v", second)
		}
		second = append(second, link("second", "x"))
		first = append(first[:len(c.l)], link("first", "x"))
		if second[len(c.l)].Name != "second" {
			t.Errorf("P2: two answers share their spare room (%d items)", len(c.l))
		}
		if third, e := cellar.Decode(c.bytes); !slices.Equal(third, c.l) || e != api.OK {
			t.Errorf("P2: a later answer was changed: %#v, %d", third, e)
		}
	}
}

func TestAnswersHangOnArguments(t *testing.T) {
	for range 2 {
		for _, c := range directories() {
			cellar.Decode("T\x01\x03")
			cellar.Encode(full(41))
			if got := cellar.Digest(c.bytes); got != slowDigest(c.bytes) {
				t.Errorf("P2: Digest(%q) = %q", c.bytes, got)
			}
			if got, e := cellar.Encode(c.l); got != c.bytes || e != api.OK {
				t.Errorf("P2: Encode(%#v) = %q, %d", c.l, got, e)
			}
			if got, e := cellar.Decode(c.bytes); !slices.Equal(got, c.l) || e != api.OK {
				t.Errorf("P2: Decode(%q) = %#v, %d", c.bytes, got, e)
			}
		}
	}
}

func TestEncodeOfAVeryLongList(t *testing.T) {
	if got, e := cellar.Encode(make([]api.Item, 1000000)); got != "" || e != api.ErrBytes {
		t.Errorf("P1, P4: Encode of a million items = %q, %d", got, e)
	}
}

func TestDecodeSharesNoText(t *testing.T) {
	for _, c := range directories() {
		blob := strings.Clone(c.bytes)
		l, _ := cellar.Decode(blob)
		for _, item := range l {
			if within(item.Name, blob) || within(item.Digest, blob) || within(item.Target, blob) {
				t.Errorf("P2: %#v lies in the blob that was handed in", item)
			}
		}
	}
}

// givenTrees is lists of all sorts.
func givenTrees(t *testing.T) [][]api.Entry {
	lists := slices.Concat(trees(), slices.Collect(maps.Values(noTrees())), slices.Collect(maps.Values(clashing(t))))
	for _, tree := range trees() {
		lists = append(lists, orders(tree)...)
	}
	return append(lists, []api.Entry{fileAt("z", "z"), linkAt("l", ".."), dirAt("a")})
}

func TestBuildWritesNothing(t *testing.T) {
	for _, l := range givenTrees(t) {
		untouched(t, "Build", sparedTree(l), func(l []api.Entry) { cellar.Build(l) })
	}
}

func TestClashWritesNothing(t *testing.T) {
	for _, l := range givenTrees(t) {
		untouched(t, "Clash, first,", sparedTree(l), func(l []api.Entry) { cellar.Clash(l, nil) })
		untouched(t, "Clash, second,", sparedTree(l), func(l []api.Entry) { cellar.Clash(nil, l) })
		untouched(t, "Clash, both,", sparedTree(l), func(l []api.Entry) { cellar.Clash(l, l) })
	}
}

func TestBuildAnswersNewMemory(t *testing.T) {
	for _, tree := range trees() {
		root, want, _ := slowBuild(tree)
		_, first, _ := cellar.Build(tree)
		_, second, _ := cellar.Build(tree)
		for i := range whole(first) {
			whole(first)[i] = "changed by the caller"
		}
		if !slices.Equal(second, want) {
			t.Errorf("P2: another answer was changed: %q", second)
		}
		second = append(second, "second")
		first = append(first[:len(want)], "first")
		if second[len(want)] != "second" {
			t.Errorf("P2: two answers share their spare room (%d blobs)", len(want))
		}
		if again, third, e := cellar.Build(tree); again != root || !slices.Equal(third, want) || e != api.OK {
			t.Errorf("P2: a later answer was changed: %q, %q, %d", again, third, e)
		}
	}
}

func TestBuildAndClashShareNoText(t *testing.T) {
	data := func(s string) string { return strings.Clone(s + " and more bytes") }
	a := []api.Entry{dirAt("d"), fileAt("d/a", data("0\x05")), execAt("b", data("other"))}
	b := []api.Entry{dirAt("d"), fileAt("d/a", data("?\x99")), execAt("b", data("other"))}
	_, blobs, _ := cellar.Build(a)
	u, v, e := cellar.Clash(a, b)
	if len(blobs) != 4 || e != api.OK {
		t.Fatalf("P6, P7: %q, %d", blobs, e)
	}
	for _, entry := range slices.Concat(a, b) {
		for _, text := range append(blobs, u, v) {
			if within(text, entry.Data) || within(text, entry.Path) {
				t.Errorf("P2: %q lies in the tree that was handed in", text)
			}
		}
	}
}

func TestBuildKeepsNothing(t *testing.T) {
	given := []api.Entry{fileAt("a", "x"), fileAt("b", "y")}
	_, first, _ := cellar.Build(given)
	copied := slices.Clone(first)
	given[1] = dirAt("c")
	second, _, e := cellar.Build(given)
	if !slices.Equal(first, copied) {
		t.Errorf("P2: the first answer became %q", first)
	}
	if want, _, _ := slowBuild(given); second != want || e != api.OK {
		t.Errorf("P2: Build of the changed list = %q, %d, want %q", second, e, want)
	}
}

func TestBuildHangsOnItsArgument(t *testing.T) {
	for range 2 {
		for _, tree := range trees() {
			cellar.Build(many(41))
			cellar.Build([]api.Entry{fileAt("a", "0\x05"), fileAt("b", "?\x99")})
			cellar.Clash([]api.Entry{fileAt("a", "0\x05")}, []api.Entry{fileAt("a", "?\x99")})
			wantRoot, want, _ := slowBuild(tree)
			if root, blobs, e := cellar.Build(tree); root != wantRoot || !slices.Equal(blobs, want) || e != api.OK {
				t.Errorf("P2: Build(%#v) = %q, %q, %d", tree, root, blobs, e)
			}
		}
	}
}
