package cellar_test

import (
	"slices"
	"strings"
	"testing"
	"unsafe"

	"cellar/api"
	"cellar/cellar"
)

// loose is a text whose bytes are changed when spoil is called.
func loose(s string) (text string, spoil func()) {
	if s == "" {
		return "", func() {}
	}
	b := []byte(s)
	return unsafe.String(&b[0], len(b)), func() {
		for i := range b {
			b[i] ^= 0x55
		}
	}
}

func TestStoresKeepNothingOfTheCallers(t *testing.T) {
	s := newStore(t, 1000)
	blob, spoilBlob := loose("a blob")
	digest, spoilDigest := loose("planted under")
	planted, spoilPlanted := loose("what is planted")
	s.Put(blob)
	s.Plant(digest, planted)
	over, spoilOver := loose("planted under")
	s.Plant(over, planted)
	spoilBlob()
	spoilDigest()
	spoilPlanted()
	spoilOver()
	gets(t, "Put", s, cellar.Digest("a blob"), "a blob")
	gets(t, "Plant", s, "planted under", "what is planted")
	if l := s.Missing([]string{"planted under"}); len(l) != 0 {
		t.Errorf("P2: what was planted was changed: %q", l)
	}
	s.Plant("planted under", "")
	lacks(t, "planted away", s, "planted under")
	asked, spoilAsked := loose("asked for")
	given := []string{asked, "other"}
	l := s.Missing(given)
	spoilAsked()
	given[1] = "changed"
	if !slices.Equal(l, []string{"asked for", "other"}) {
		t.Errorf("P2: an answer was changed: %q", l)
	}
}

func TestUploadKeepsNothingOfTheCallers(t *testing.T) {
	s := newStore(t, 1000)
	var spoils []func()
	var given []api.Entry
	for _, entry := range sample() {
		p, spoilPath := loose(entry.Path)
		data, spoilData := loose(entry.Data)
		given = append(given, api.Entry{Path: p, Kind: entry.Kind, Data: data})
		spoils = append(spoils, spoilPath, spoilData)
	}
	p := plan(2, 20, 1, 2, 3)
	if root, _, e := s.Upload(given, plan(1, 20)); e != api.OK {
		t.Fatalf("P9: Upload = %q, %d", root, e)
	}
	s.Upload(nil, p)
	root, _, _ := slowBuild(sample())
	for _, spoil := range spoils {
		spoil()
	}
	clear(given)
	clear(p.Link)
	for _, blob := range sampleBlobs(t) {
		gets(t, "Upload", s, slowDigest(blob), blob)
	}
	gives(t, "Upload", s, root, 40, 5, inOrder(sample()))
}

func TestMissingWritesNothing(t *testing.T) {
	s := newStore(t, 100)
	s.Put("a")
	for _, l := range [][]string{nil, {}, {"b"}, {"169"}, {"b", "b", "169", "a", "b"}, {"c", "b", "a"}, {"169", "169", "z"}} {
		untouched(t, "Missing", roomy(l, "spare", "room", "here"), func(l []string) { s.Missing(l) })
	}
}

func TestMissingAnswersNewMemory(t *testing.T) {
	s := newStore(t, 100)
	s.Put("a")
	for _, l := range [][]string{{"b"}, {"b", "c", "d"}, {"b", "169", "b", "c"}} {
		want := (&slowStore{list: []standing{{"169", "a"}}}).missing(l)
		given := roomy(l, "spare", "room")
		first, second := s.Missing(given), s.Missing(given)
		for i := range whole(first) {
			whole(first)[i] = "changed by the caller"
		}
		if !slices.Equal(given, l) || !slices.Equal(second, want) {
			t.Errorf("P2: the list, or another answer, was changed: %q, %q", given, second)
		}
		second = append(second, "second")
		first = append(first[:len(want)], "first")
		if second[len(want)] != "second" {
			t.Errorf("P2: two answers share their spare room: %q", second)
		}
		if third := s.Missing(given); !slices.Equal(third, want) {
			t.Errorf("P2: a later answer was changed: %q", third)
		}
	}
}

func TestUploadWritesNothing(t *testing.T) {
	for _, l := range givenTrees(t) {
		untouched(t, "Upload", sparedTree(l), func(l []api.Entry) { newStore(t, 100000).Upload(l, plan(2, 20, 1, 0, 2)) })
	}
	for _, link := range [][]int{nil, {}, {0}, {3, 1, 2}, {1, 2, 1, 2, 1, 2}, {4}, {0, 0, 0, 0, 0, 0, 0, -1}} {
		untouched(t, "Upload, its Link,", roomy(link, 1, 1, 1, 4), func(link []int) { newStore(t, 100).Upload(sample(), plan(3, 1, link...)) })
	}
}

// What stands in the spare room of Link is no part of it.
func TestUploadDoesNotReadSpareRoom(t *testing.T) {
	p := api.Plan{Tries: 1, Batch: 5000, Link: roomy([]int{0}, 1, 4, -1)}
	if _, sent, e := newStore(t, 100).Upload(nil, p); e != api.OK || sent != (api.Sent{Tries: 2, Blobs: 1, Bytes: 2}) {
		t.Errorf("P9: Upload = %v, %d", sent, e)
	}
}

func TestFetchAnswersNewMemory(t *testing.T) {
	for _, tree := range trees() {
		s, _, root := stores(t, tree)
		want := inOrder(tree)
		first, _ := s.Fetch(root, 40, 5)
		second, _ := s.Fetch(root, 40, 5)
		for i := range whole(first) {
			whole(first)[i] = linkAt("changed", "by the caller")
		}
		if !slices.Equal(second, want) {
			t.Errorf("P2: another answer was changed: %#v", second)
		}
		second = append(second, linkAt("second", "x"))
		first = append(first[:len(want)], linkAt("first", "x"))
		if second[len(want)].Path != "second" {
			t.Errorf("P2: two answers share their spare room (%d entries)", len(want))
		}
		gives(t, "a later answer", s, root, 40, 5, want)
	}
}

// Get and Fetch give texts of their own, not those that were handed in.
func TestStoresShareNoText(t *testing.T) {
	s := newStore(t, 1000)
	var given []string
	own := func(text string) string {
		given = append(given, strings.Clone(text))
		return given[len(given)-1]
	}
	var tree []api.Entry
	for _, entry := range inDirs(fileAt("dir/inner/file", "the bytes of a file")) {
		tree = append(tree, api.Entry{Path: own(entry.Path), Kind: entry.Kind, Data: own(entry.Data)})
	}
	tree = append(tree, linkAt(own("link"), own("dir/inner")))
	root, _, _ := s.Upload(tree, plan(1, 5000))
	s.Put(own("a blob that is put"))
	s.Plant(own("planted under"), own("a blob that is planted"))
	fetched, e := s.Fetch(own(root), 40, 5)
	if e != api.OK || len(fetched) != 4 {
		t.Fatalf("P10: Fetch = %#v, %d", fetched, e)
	}
	answers := append(s.Missing([]string{own("not there"), own("nor this")}), root)
	for _, entry := range fetched {
		answers = append(answers, entry.Path, entry.Data)
	}
	for _, digest := range []string{"planted under", cellar.Digest("a blob that is put"), cellar.Digest("the bytes of a file"), root} {
		blob, _ := s.Get(digest)
		answers = append(answers, blob)
	}
	for _, text := range answers {
		for _, s := range given {
			if within(text, s) {
				t.Errorf("P2: %q lies in what was handed in", text)
			}
		}
	}
}

// Nor do two answers share a text with each other, or with the store.
func TestAnswersShareNoText(t *testing.T) {
	s := newStore(t, 1000)
	root, _, _ := s.Upload(sample(), plan(1, 5000))
	texts := func() []string {
		l := s.Missing([]string{"not there"})
		blob, _ := s.Get(root)
		again, _ := s.Get(root)
		l = append(l, blob, again)
		fetched, _ := s.Fetch(root, 40, 5)
		for _, entry := range fetched {
			l = append(l, entry.Path, entry.Data)
		}
		return l
	}
	all := append(texts(), texts()...)
	for i, a := range all {
		for j, b := range all {
			// The texts of one byte are the language's own.
			if i != j && len(a) > 1 && within(a, b) {
				t.Errorf("P2: %q and %q share their bytes", a, b)
			}
		}
	}
}

// An answer of Get is still the same when something else is planted there.
func TestAnswersStay(t *testing.T) {
	s := newStore(t, 1000)
	root, _, _ := s.Upload(sample(), plan(1, 5000))
	blob, _ := s.Get(root)
	l, _ := s.Fetch(root, 40, 5)
	missing := s.Missing([]string{"zz"})
	for _, blob := range sampleBlobs(t) {
		s.Plant(slowDigest(blob), "other")
		s.Plant(slowDigest(blob), "")
	}
	s.Plant("zz", "there")
	if slowDigest(blob) != root || !slices.Equal(l, inOrder(sample())) || !slices.Equal(missing, []string{"zz"}) {
		t.Errorf("P2: answers were changed: %q, %#v, %q", blob, l, missing)
	}
}

// The same steps give the same answers in each store, whatever other stores do.
func TestStoresHangOnNothingElse(t *testing.T) {
	other := newStore(t, 100000)
	for range 5 {
		s := newStore(t, 100000)
		other.Upload(many(40), plan(9, 5000, 1, 1, 1))
		other.Plant(cellar.Digest("67"), "spoilt")
		blobs := sampleBlobs(t)
		sends(t, "a new store", s, sample(), plan(2, 5000, 2), api.Sent{Tries: 3, Blobs: 5, Bytes: sum(blobs)}, api.OK, blobs...)
		root, _, _ := slowBuild(sample())
		gives(t, "a new store", s, root, 5, 2, inOrder(sample()))
		other.Fetch(root, 1, 1)
	}
}
