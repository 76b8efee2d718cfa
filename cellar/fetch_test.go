package cellar_test

import (
	"fmt"
	"math"
	"path"
	"slices"
	"strings"
	"testing"

	"cellar/api"
	"cellar/cellar"
)

// inOrder is a tree's entries as Fetch must give them: by the names of their paths.
func inOrder(tree []api.Entry) []api.Entry {
	l := slices.Clone(tree)
	slices.SortFunc(l, func(a, b api.Entry) int {
		return slices.Compare(strings.Split(a.Path, "/"), strings.Split(b.Path, "/"))
	})
	return l
}

// fetch is what Fetch must answer, by a list of what is still to be gone through,
// the next one last.
func (s *slowStore) fetch(root string, entries, depth int) ([]api.Entry, api.Errno) {
	top, e := s.directory(root)
	if e != api.OK {
		return nil, e
	}
	type found struct {
		path string
		item api.Item
	}
	var todo []found
	add := func(dir string, items []api.Item) {
		for _, item := range slices.Backward(items) {
			todo = append(todo, found{path.Join(dir, item.Name), item})
		}
	}
	add("", top)
	var list []api.Entry
	for len(todo) > 0 {
		next := todo[len(todo)-1]
		todo = todo[:len(todo)-1]
		entry := api.Entry{Path: next.path, Kind: next.item.Kind, Data: next.item.Target}
		list = append(list, entry)
		names := len(strings.Split(next.path, "/"))
		if len(list) > entries || len(list) > 40 || names > depth || names > 5 {
			return nil, api.ErrBudget
		}
		if entry.Kind == api.Link {
			if slowLeadsOut(entry) {
				return nil, api.ErrSpoilt
			}
			continue
		}
		blob, e := s.get(next.item.Digest)
		if e != api.OK {
			return nil, e
		}
		if slowDigest(blob) != next.item.Digest || len(blob) != next.item.Size || entry.Kind != api.Dir && len(blob) > 60 {
			return nil, api.ErrSpoilt
		}
		if entry.Kind != api.Dir {
			list[len(list)-1].Data = blob
			continue
		}
		inside, e := s.directory(next.item.Digest)
		if e != api.OK {
			return nil, e
		}
		add(next.path, inside)
	}
	return list, api.OK
}

func (s *slowStore) directory(digest string) ([]api.Item, api.Errno) {
	blob, e := s.get(digest)
	if e != api.OK {
		return nil, e
	}
	items, e := cellar.Decode(blob)
	if slowDigest(blob) != digest || e != api.OK {
		return nil, api.ErrSpoilt
	}
	return items, api.OK
}

// fetches holds a Fetch against the slow one, and what it gives against Build.
func fetches(t *testing.T, what string, fast *cellar.Store, slow *slowStore, root string, entries, depth int) api.Errno {
	t.Helper()
	want, wantE := slow.fetch(root, entries, depth)
	got, e := fast.Fetch(root, entries, depth)
	if !slices.Equal(got, want) || e != wantE || e != api.OK && got != nil {
		t.Fatalf("P10: %s: Fetch(%q, %d, %d) = %#v, %d, want %#v, %d", what, root, entries, depth, got, e, want, wantE)
	}
	if e == api.OK {
		if again, _, e := cellar.Build(got); again != root || e != api.OK {
			t.Fatalf("P11: %s: Build of %#v = %q, %d, want %q", what, got, again, e, root)
		}
	}
	return e
}

// stores is a store with the blobs of entries, which need not make a tree, and the root.
func stores(t *testing.T, entries []api.Entry) (*cellar.Store, *slowStore, string) {
	t.Helper()
	fast, slow := newStore(t, 100000), &slowStore{room: 100000}
	blobs := slowBlobs(entries, "")
	for _, blob := range blobs {
		if e := fast.Put(blob); e != api.OK || slow.put(blob) != api.OK {
			t.Fatalf("P8: Put = %d", e)
		}
		if there, _ := slow.get(slowDigest(blob)); there != blob {
			t.Fatalf("no entries to test by, as %q and %q clash: %#v", there, blob, entries)
		}
	}
	return fast, slow, slowDigest(blobs[0])
}

func gives(t *testing.T, what string, s *cellar.Store, root string, entries, depth int, want []api.Entry) {
	t.Helper()
	if got, e := s.Fetch(root, entries, depth); !slices.Equal(got, want) || e != api.OK {
		t.Errorf("P10: %s: Fetch(%q, %d, %d) = %#v, %d, want %#v", what, root, entries, depth, got, e, want)
	}
}

func fetchFails(t *testing.T, what string, s *cellar.Store, root string, entries, depth int, want api.Errno) {
	t.Helper()
	if got, e := s.Fetch(root, entries, depth); got != nil || e != want {
		t.Errorf("P1, P10: %s: Fetch(%.20q, %d, %d) = %#v, %d, want %d", what, root, entries, depth, got, e, want)
	}
}

func TestFetchOfWhatUploadBrought(t *testing.T) {
	for _, tree := range trees() {
		root, _, _ := slowBuild(tree)
		want := inOrder(tree)
		for i, l := range orders(tree) {
			s := newStore(t, 100000)
			// By a link that loses and doubles things.
			if got, _, e := s.Upload(l, plan(9, 1+13*i, fates(6)[i*270]...)); got != root || e != api.OK {
				t.Fatalf("P9: Upload(%#v) = %q, %d", l, got, e)
			}
			gives(t, "what Upload brought", s, root, 40, 5, want)
			gives(t, "again", s, root, len(want), 5, want)
			if got, e := s.Fetch(root, 40, 5); e == api.OK {
				if again, _, e := cellar.Build(got); again != root || e != api.OK {
					t.Errorf("P11: Build of what Fetch gave = %q, %d, want %q", again, e, root)
				}
			}
		}
	}
}

// Several trees in one store are each fetched as they were, if no two clash.
func TestFetchOfManyTrees(t *testing.T) {
	s := newStore(t, 100000)
	slow := &slowStore{room: 100000}
	var brought [][]api.Entry
	for _, tree := range trees() {
		root, blobs, _ := slowBuild(tree)
		if slices.ContainsFunc(blobs, func(blob string) bool { there, e := slow.get(slowDigest(blob)); return e == api.OK && there != blob }) {
			continue
		}
		slow.putUpTo(blobs)
		if got, _, e := s.Upload(tree, plan(1, 5000)); got != root || e != api.OK {
			t.Errorf("P9: Upload(%#v) = %q, %d", tree, got, e)
		}
		brought = append(brought, tree)
	}
	if len(brought) < 10 {
		t.Fatalf("only %d trees: they try nothing", len(brought))
	}
	for _, tree := range brought {
		root, _, _ := slowBuild(tree)
		gives(t, "one of many", s, root, 40, 5, inOrder(tree))
	}
}

func TestFetchOfNothing(t *testing.T) {
	s := newStore(t, 100)
	fetchFails(t, "an empty store", s, "5c7", 40, 5, api.ErrNone)
	s.Put("T\x00")
	for _, n := range []int{0, -1, 1, 40, math.MinInt, math.MaxInt} {
		gives(t, "the empty tree, which needs no budget", s, "5c7", n, n, nil)
	}
	long := strings.Repeat("5c7", 1000000)
	for _, root := range []string{"", "5c", "5c77", "5C7", " 5c7", "zz", "\x00", "fff", "000", "001", long} {
		fetchFails(t, "a root that is not there", s, root, 40, 5, api.ErrNone)
		fetchFails(t, "a root that is not there, no budget", s, root, 0, math.MinInt, api.ErrNone)
		s.Plant(root, "T\x00")
		fetchFails(t, "a root that is no digest of what stands there", s, root, 40, 5, api.ErrSpoilt)
		fetchFails(t, "such a root, no budget", s, root, -1, 0, api.ErrSpoilt)
		s.Plant(root, "")
		fetchFails(t, "a root that has gone", s, root, 40, 5, api.ErrNone)
	}
	gives(t, "the empty tree beside them", s, "5c7", 40, 5, nil)
}

func TestFetchOfASpoiltTop(t *testing.T) {
	for _, blob := range []string{"", "x", "T", "T\x01", "t\x00", "T\x00\x00", "T\x01\x03\x01l\x00", fullBytes(41), strings.Repeat("x", 5000), strings.Repeat("T\x00", 1000000)} {
		s := newStore(t, 100000)
		s.Put(blob)
		s.Plant(cellar.Digest("a"+blob), "a"+blob)
		if len(blob) <= 100000 {
			fetchFails(t, "no directory's bytes", s, cellar.Digest(blob), 40, 5, api.ErrSpoilt)
		}
		fetchFails(t, "no directory's bytes, planted", s, cellar.Digest("a"+blob), 40, 5, api.ErrSpoilt)
	}
	s, _, root := stores(t, []api.Entry{fileAt("a", "x")})
	s.Plant(root, "T\x00")
	fetchFails(t, "another directory", s, root, 40, 5, api.ErrSpoilt)
	s.Plant(root, strings.Repeat("T\x00", 1000000))
	fetchFails(t, "a long text", s, root, 40, 5, api.ErrSpoilt)
	fetchFails(t, "another directory, no budget", s, root, 0, 0, api.ErrSpoilt)
	s.Plant(root, "")
	fetchFails(t, "no top any more", s, root, 0, 0, api.ErrNone)
}

func TestBudgets(t *testing.T) {
	tree := []api.Entry{dirAt("a"), fileAt("a/b", "x"), dirAt("a/c"), linkAt("a/c/d", ".."), execAt("b", "y"), dirAt("c")}
	s, _, root := stores(t, tree)
	for _, n := range []int{6, 7, 40, 41, 1000, math.MaxInt32, math.MaxInt} {
		gives(t, "entries that serve", s, root, n, 5, tree)
		gives(t, "a depth that serves", s, root, 40, n-3, tree)
	}
	for _, n := range []int{5, 4, 1, 0, -1, -40, math.MinInt, math.MinInt + 1} {
		fetchFails(t, "entries too few", s, root, n, 5, api.ErrBudget)
	}
	for _, n := range []int{2, 1, 0, -1, math.MinInt, math.MinInt + 1} {
		fetchFails(t, "a depth too little", s, root, 40, n, api.ErrBudget)
	}
	fetchFails(t, "both", s, root, 5, 2, api.ErrBudget)
	fetchFails(t, "none", s, root, 0, 0, api.ErrBudget)
	flat, _, root := stores(t, many(40))
	gives(t, "forty at the top", flat, root, 40, 1, many(40))
	gives(t, "forty at the top, huge", flat, root, math.MaxInt, math.MaxInt, many(40))
	fetchFails(t, "thirty-nine", flat, root, 39, 1, api.ErrBudget)
	deep, _, root := stores(t, inDirs(fileAt("a/b/c/d/e", "x")))
	gives(t, "five deep", deep, root, 5, 5, inDirs(fileAt("a/b/c/d/e", "x")))
	gives(t, "five deep, huge", deep, root, math.MaxInt, math.MaxInt, inDirs(fileAt("a/b/c/d/e", "x")))
	fetchFails(t, "four deep", deep, root, 5, 4, api.ErrBudget)
}

// What stands in a store may be more than a tree, whatever the budgets are.
func TestFetchOfMoreThanATree(t *testing.T) {
	x := []api.Entry{fileAt("a", "x"), linkAt("l", "a"), fileAt("x", "")}
	for what, entries := range map[string][]api.Entry{
		"forty-one in all":                  below("d", many(40)),
		"forty-one, the last at the top":    append(below("d", many(39)), linkAt("e", "x")),
		"forty-one, the first at the top":   append(below("d", many(39)), fileAt("a", "x")),
		"forty-one in two":                  append(below("d", many(20)), below("e", many(19))...),
		"eighty-two in two of the same":     append(below("d", many(40)), below("e", many(40))...),
		"six deep":                          inDirs(fileAt("a/b/c/d/e/f", "x")),
		"six deep, a dir":                   inDirs(dirAt("a/b/c/d/e/f")),
		"six deep, a link":                  inDirs(linkAt("a/b/c/d/e/f", "x")),
		"nine deep":                         inDirs(dirAt("a/b/c/d/e/f/g/h/i")),
		"six deep and forty-one":            append(below("a", below("b", below("c", below("d", below("e", x))))), many(35)...),
		"five deep and forty-one":           append(below("a", below("b", below("c", below("d", x)))), many(34)...),
		"six deep, with a link that is out": inDirs(linkAt("a/b/c/d/e/f", "/")),
	} {
		s, _, root := stores(t, entries)
		for _, n := range []int{40, 41, 100, math.MaxInt, 5} {
			fetchFails(t, what, s, root, n, 5, api.ErrBudget)
			fetchFails(t, what, s, root, n, n, api.ErrBudget)
		}
	}
	s, _, root := stores(t, append(below("d", many(20)), below("e", many(18))...))
	gives(t, "forty in two", s, root, 41, 6, append(below("d", many(20)), below("e", many(18))...))
	s, _, root = stores(t, append(below("a", below("b", below("c", below("d", x)))), many(33)...))
	gives(t, "five deep and forty", s, root, math.MaxInt, math.MaxInt, append(below("a", below("b", below("c", below("d", x)))), many(33)...))
}

// One and the same directory may be met again: its entries count each time.
func TestFetchOfADirectoryMetTwice(t *testing.T) {
	inner := []api.Entry{fileAt("x", "x"), linkAt("y", "../..")}
	tree := slices.Concat([]api.Entry{dirAt("a")}, below("a/b", inner), below("a/c", inner), below("d", below("e", inner)))
	s, slow, root := stores(t, tree)
	if len(slow.list) != 5 { // the top, a, d, the inner one, x
		t.Fatalf("no tree to test by: %q", slow.list)
	}
	gives(t, "thrice the same", s, root, 11, 3, tree)
	fetchFails(t, "thrice the same, one too many", s, root, 10, 3, api.ErrBudget)
	// Here its link leads out only where it stands less deep.
	tree = slices.Concat([]api.Entry{dirAt("a")}, below("a/b", inner), below("d", inner))
	s, _, root = stores(t, tree)
	fetchFails(t, "out by the second", s, root, 40, 5, api.ErrSpoilt)
	// Two in each, and so on down: ever more with few blobs.
	double := []api.Entry{}
	for range 9 {
		double = append(below("a", double), below("b", double)...)
		s, _, root := stores(t, double)
		if len(double) <= 40 {
			gives(t, "twice in each", s, root, len(double), 5, double)
		} else {
			fetchFails(t, "twice in each, too many", s, root, math.MaxInt, math.MaxInt, api.ErrBudget)
		}
	}
}

// selfish is a directory with one item, of the digest that the directory itself has.
func selfish(t *testing.T, kind int) (name, blob string) {
	t.Helper()
	for i := range 17576 {
		for n := range api.Prime {
			digest := fmt.Sprintf("%03x", n)
			blob, e := cellar.Encode([]api.Item{{Name: letters(i), Kind: kind, Digest: digest, Size: 12}})
			if e == api.OK && len(blob) == 12 && cellar.Digest(blob) == digest {
				return letters(i), blob
			}
		}
	}
	t.Fatal("no directory tells its own digest")
	return "", ""
}

func TestFetchOfADirectoryInItself(t *testing.T) {
	s := newStore(t, 100)
	_, blob := selfish(t, api.Dir)
	puts(t, "a directory in itself", s, blob, api.OK)
	for _, n := range []int{0, 1, 5, 6, 40, math.MaxInt} {
		fetchFails(t, "a directory in itself", s, cellar.Digest(blob), n, n, api.ErrBudget)
	}
	name, blob := selfish(t, api.File)
	puts(t, "a directory as a file in itself", s, blob, api.OK)
	gives(t, "a directory as a file in itself", s, cellar.Digest(blob), 1, 1, []api.Entry{fileAt(name, blob)})
	if root, blobs, e := cellar.Build([]api.Entry{fileAt(name, blob)}); root != cellar.Digest(blob) || len(blobs) != 1 || e != api.OK {
		t.Errorf("P11: Build of it = %q, %q, %d", root, blobs, e)
	}
}

// twinOf is another text of so many bytes, at least 3, with the digest of a blob.
func twinOf(t *testing.T, blob string, length int) string {
	t.Helper()
	b := []byte(strings.Repeat("~", length))
	for i := range 1 << 16 {
		b[length-2], b[length-1] = byte(i), byte(i>>8)
		if string(b) != blob && cellar.Digest(string(b)) == cellar.Digest(blob) {
			return string(b)
		}
	}
	t.Fatalf("no twin of %q has %d bytes", blob, length)
	return ""
}

// spoils is what may be planted in place of a blob, and what Fetch must make of it.
func spoils(t *testing.T, blob string, kind int) map[string]api.Errno {
	t.Helper()
	m := map[string]api.Errno{
		"":                               api.ErrNone,
		blob + "x":                       api.ErrSpoilt,
		"x" + blob:                       api.ErrSpoilt,
		strings.Repeat("x", len(blob)):   api.ErrSpoilt,
		twinOf(t, blob, len(blob)+1):     api.ErrSpoilt,
		twinOf(t, blob, len(blob)+200):   api.ErrSpoilt,
		twinOf(t, blob, 60):              api.ErrSpoilt,
		twinOf(t, blob, 61):              api.ErrSpoilt,
		strings.Repeat(blob+"long", 100): api.ErrSpoilt,
		blob[:len(blob)-1] + "\xfe":      api.ErrSpoilt,
		"T\x00":                          api.ErrSpoilt,
		"T\x01\x03\x01l\x01x":            api.ErrSpoilt,
	}
	if len(blob) > 3 {
		m[twinOf(t, blob, len(blob)-1)] = api.ErrSpoilt
		if kind == api.Dir {
			m[twinOf(t, blob, len(blob))] = api.ErrSpoilt // all is right, but it is no directory's bytes
		}
	}
	return m
}

func TestFetchOfSpoiltBlobs(t *testing.T) {
	tree := []api.Entry{
		dirAt("a"), dirAt("a/a"), execAt("a/a/a", "deep file"), dirAt("a/a/b"), fileAt("a/a/b/f", "deeper"), fileAt("a/b", "in the midst"),
		dirAt("b"), linkAt("b/l", "../a"), fileAt("c", "at the top"), fileAt("d", "the last one"),
	}
	root, blobs, e := slowBuild(tree)
	if e != api.OK || len(blobs) != 10 {
		t.Fatalf("no tree to test by: %q, %d", blobs, e)
	}
	for _, blob := range blobs {
		kind := api.File
		if blob[0] == 'T' {
			kind = api.Dir
		}
		for spoil, want := range spoils(t, blob, kind) {
			fast, slow, _ := stores(t, tree)
			fast.Plant(slowDigest(blob), spoil)
			slow.plant(slowDigest(blob), spoil)
			fetchFails(t, fmt.Sprintf("%q in place of %q", spoil[:min(len(spoil), 70)], blob), fast, root, 40, 5, want)
			for n := -1; n <= 11; n++ {
				fetches(t, "spoilt", fast, slow, root, n, 5)
				fetches(t, "spoilt", fast, slow, root, 40, n)
			}
			fast.Plant(slowDigest(blob), blob)
			gives(t, "mended", fast, root, 40, 5, tree)
		}
	}
}

// A file's blob may be replaced by another of its digest and length: then this is
// what a tree of the root has, too.
func TestFetchOfAnotherTreeOfTheRoot(t *testing.T) {
	for _, path := range []string{"a", "d/a", "a/b/c/d/e"} {
		s, _, root := stores(t, inDirs(fileAt(path, "0\x05")))
		s.Plant(slowDigest("0\x05"), "?\x99")
		want := inDirs(fileAt(path, "?\x99"))
		gives(t, "another tree", s, root, 40, 5, want)
		if again, _, e := cellar.Build(want); again != root || e != api.OK {
			t.Errorf("P11: Build of it = %q, %d, want %q", again, e, root)
		}
	}
}

func TestFetchOfWrongItems(t *testing.T) {
	x61, x60 := strings.Repeat("x", 61), strings.Repeat("x", 60)
	item := func(kind int, blob string, size int) []api.Item {
		return []api.Item{{Name: "a", Kind: kind, Digest: slowDigest(blob), Size: size}}
	}
	out := []api.Item{link("l", "../x")}
	outBytes, _ := cellar.Encode(out)
	for _, c := range []struct {
		what  string
		blobs []string
		items []api.Item
		e     api.Errno
	}{
		{"a file of 60 bytes", []string{x60}, item(api.File, x60, 60), api.OK}, {"a file of 61 bytes", []string{x61}, item(api.File, x61, 61), api.ErrSpoilt},
		{"a tool of 60 bytes", []string{x60}, item(api.Exec, x60, 60), api.OK}, {"a tool of 61 bytes", []string{x61}, item(api.Exec, x61, 61), api.ErrSpoilt},
		{"a file of 61 bytes that is not there", nil, item(api.File, x61, 61), api.ErrNone},
		{"a size too small", []string{"xx"}, item(api.File, "xx", 1), api.ErrSpoilt}, {"a size too great", []string{"xx"}, item(api.File, "xx", 3), api.ErrSpoilt},
		{"a size too great by 256", []string{"xx"}, item(api.File, "xx", 258), api.ErrSpoilt}, {"a size of 0", []string{"xx"}, item(api.Exec, "xx", 0), api.ErrSpoilt},
		{"a dir's size too great", []string{"T\x00"}, item(api.Dir, "T\x00", 3), api.ErrSpoilt}, {"a dir's size of 0", []string{"T\x00"}, item(api.Dir, "T\x00", 0), api.ErrSpoilt},
		{"a dir", []string{"T\x00"}, item(api.Dir, "T\x00", 2), api.OK}, {"a dir's bytes as a file", []string{"T\x00"}, item(api.File, "T\x00", 2), api.OK},
		{"a file's bytes as a dir", []string{"xx"}, item(api.Dir, "xx", 2), api.ErrSpoilt}, {"the empty blob as a dir", []string{""}, item(api.Dir, "", 0), api.ErrSpoilt},
		{"the empty blob", []string{""}, item(api.File, "", 0), api.OK}, {"the empty blob that is not there", nil, item(api.File, "", 0), api.ErrNone},
		{"a digest that none can have", nil, []api.Item{{Name: "a", Kind: api.File, Digest: "fff", Size: 1}}, api.ErrNone},
		{"a link that leads out", nil, out, api.ErrSpoilt}, {"a link from the root on", nil, []api.Item{link("l", "/")}, api.ErrSpoilt}, {"a link that comes back", nil, []api.Item{link("l", "x/../../x")}, api.ErrSpoilt},
		{"a link", nil, []api.Item{link("l", "x/..")}, api.OK}, {"a link to nothing", nil, []api.Item{link("l", ".//.")}, api.OK},
		{"a link below that does not lead out", []string{outBytes}, item(api.Dir, outBytes, len(outBytes)), api.OK},
	} {
		top, e := cellar.Encode(c.items)
		if e != api.OK {
			t.Fatalf("no directory to test by: %s: %d", c.what, e)
		}
		for depth := range 5 { // the same again in directories, one in the other
			// Deeper down these links lead out no more.
			if depth > 0 && c.items[0].Kind == api.Link && c.items[0].Target != "/" {
				break
			}
			fast, slow := newStore(t, 1000), &slowStore{room: 1000}
			blob, blobs := top, c.blobs
			for range depth {
				blobs = append(slices.Clone(blobs), blob)
				blob, _ = cellar.Encode(item(api.Dir, blob, len(blob)))
			}
			for _, blob := range append(slices.Clone(blobs), blob) {
				fast.Put(blob)
				slow.put(blob)
			}
			root := slowDigest(blob)
			deepest := depth + 1
			if c.what == "a link below that does not lead out" {
				deepest++
			}
			want := c.e
			if deepest > 5 {
				want = api.ErrBudget
			}
			if e := fetches(t, c.what, fast, slow, root, 40, 5); e != want {
				t.Errorf("P10: %s, %d deep: Fetch = %d, want %d", c.what, depth, e, want)
			}
			if e := fetches(t, c.what, fast, slow, root, depth, 5); e != api.ErrBudget {
				t.Errorf("P10: %s, %d deep, no budget for it: Fetch = %d", c.what, depth, e)
			}
			if e := fetches(t, c.what, fast, slow, root, 40, depth); e != api.ErrBudget {
				t.Errorf("P10: %s, %d deep, no depth for it: Fetch = %d", c.what, depth, e)
			}
		}
	}
}

// Links lead out, or do not, from where they stand.
func TestFetchOfLinks(t *testing.T) {
	for _, p := range []string{"l", "d/l", "a/b/l", "a/b/c/d/l"} {
		for _, target := range []string{"x", ".", "..", "../..", "../../..", "../../../..", "../../../../..", "/", "/x", "x/..", "x/../..", "./..//..", "x//../../..", "...", "..x", "../../../../x/../.."} {
			entries := inDirs(linkAt(p, target))
			s, _, root := stores(t, entries)
			if slowLeadsOut(linkAt(p, target)) {
				fetchFails(t, p+" to "+target, s, root, 40, 5, api.ErrSpoilt)
				fetchFails(t, p+" to "+target+", no budget", s, root, len(entries)-1, 5, api.ErrBudget)
			} else {
				gives(t, p+" to "+target, s, root, len(entries), len(entries), entries)
			}
		}
	}
}

// Where there are several faults, the first on the way is the answer.
func TestWhichErrorComesFirst(t *testing.T) {
	tree := []api.Entry{fileAt("a", "first"), dirAt("b"), dirAt("b/a"), fileAt("b/a/a", "deep"), fileAt("b/b", "back again"), linkAt("c", "a"), fileAt("d", "last")}
	under := func(path string) string { // the digest of what is at this path
		for _, x := range tree {
			if x.Path == path && x.Kind != api.Dir {
				return slowDigest(x.Data)
			}
		}
		return slowDigest(slowBlobs(tree, path+"/")[0])
	}
	files := []string{"a", "b", "b/a", "b/a/a", "b/b", "d"}
	for i, x := range files {
		for j, y := range files {
			if i == j {
				continue
			}
			s, slow, root := stores(t, tree)
			s.Plant(under(x), "")
			slow.plant(under(x), "")
			s.Plant(under(y), "spoilt")
			slow.plant(under(y), "spoilt")
			want := api.ErrNone
			if j < i {
				want = api.ErrSpoilt
			}
			fetchFails(t, x+" gone, "+y+" spoilt", s, root, 40, 5, want)
			fetchFails(t, x+" gone, "+y+" spoilt, no budget", s, root, 0, 5, api.ErrBudget)
			for n := -1; n <= 8; n++ {
				for depth := -1; depth <= 4; depth++ {
					fetches(t, x+" gone, "+y+" spoilt", s, slow, root, n, depth)
				}
			}
			s.Plant(root, "")
			fetchFails(t, "the root gone as well", s, root, 0, 0, api.ErrNone)
			s.Plant(root, "spoilt")
			fetchFails(t, "the root spoilt as well", s, root, 0, 0, api.ErrSpoilt)
		}
	}
	// The forty-first entry is too many ahead of all else; the fortieth is looked at first.
	for n, want := range map[int]api.Errno{40: api.ErrNone, 41: api.ErrBudget} {
		entries := append(below("a", many(n-2)), fileAt("b", "gone"), linkAt("c", "/"))
		s, _, root := stores(t, entries)
		s.Plant(slowDigest("gone"), "")
		fetchFails(t, fmt.Sprint("gone is entry ", n), s, root, math.MaxInt, 5, want)
	}
	for n, want := range map[int]api.Errno{40: api.ErrSpoilt, 41: api.ErrBudget} {
		s, _, root := stores(t, append(below("a", many(n-2)), linkAt("c", "/"), linkAt("d", "x")))
		fetchFails(t, fmt.Sprint("the way out is entry ", n), s, root, math.MaxInt, 5, want)
	}
	s, _, root := stores(t, append(inDirs(fileAt("a/b/c/d/e/f", "too deep")), fileAt("b", "gone")))
	s.Plant(slowDigest("gone"), "")
	s.Plant(slowDigest("too deep"), "")
	fetchFails(t, "too deep ahead of what is gone", s, root, 40, 6, api.ErrBudget)
}

// All that two plantings and small budgets do to a small tree.
func TestAllThatPlantingDoes(t *testing.T) {
	inner := []api.Entry{fileAt("f", "0\x05"), linkAt("l", "../..")}
	tree := append(below("a", below("b", inner)), fileAt("c", ""), dirAt("d"))
	root, blobs, e := slowBuild(tree)
	if e != api.OK || len(blobs) != 6 {
		t.Fatalf("no tree to test by: %q, %d", blobs, e)
	}
	innerBlob := slowBlobs(inner, "")[0]
	planted := append(slices.Clone(blobs), "", "?\x99", "x", "T\x00\x00", twinOf(t, innerBlob, len(innerBlob)), twinOf(t, "T\x00", 61))
	seen := map[api.Errno]int{}
	for _, x := range blobs {
		for _, y := range blobs {
			for _, px := range planted {
				for _, py := range planted {
					fast, slow, _ := stores(t, tree)
					for _, c := range [][2]string{{x, px}, {y, py}} {
						fast.Plant(slowDigest(c[0]), c[1])
						slow.plant(slowDigest(c[0]), c[1])
					}
					what := fmt.Sprintf("%q for %q, %q for %q", px, x, py, y)
					for _, budget := range [][2]int{{40, 5}, {6, 3}, {5, 3}, {6, 2}, {2, 5}} {
						seen[fetches(t, what, fast, slow, root, budget[0], budget[1])]++
					}
					for _, blob := range blobs {
						seen[fetches(t, what, fast, slow, slowDigest(blob), 6, 3)]++
					}
				}
			}
		}
	}
	for _, e := range []api.Errno{api.OK, api.ErrNone, api.ErrSpoilt, api.ErrBudget} {
		if seen[e] < 1000 {
			t.Errorf("only %d with %d: they try nothing", seen[e], e)
		}
	}
}

// Fetch takes nothing away and puts nothing in.
func TestFetchChangesNothing(t *testing.T) {
	blobs := sampleBlobs(t)
	s := newStore(t, sum(blobs))
	root, _, _ := s.Upload(sample(), plan(1, 5000))
	for _, n := range []int{40, 0, 3} {
		s.Fetch(root, n, 5)
		s.Fetch("zz", n, 5)
		s.Fetch(cellar.Digest("67"), n, 5)
	}
	for _, blob := range blobs {
		gets(t, "behind Fetch", s, slowDigest(blob), blob)
	}
	lacks(t, "behind Fetch", s, "zz")
	puts(t, "behind Fetch", s, "x", api.ErrRoom)
}
