package tree

import (
	"slices"
	"testing"

	"cellar/api"
)

func TestWalk(t *testing.T) {
	entries := []api.Entry{
		{Path: "d/z"}, {Path: "d-/a", Kind: api.File}, {Path: "d"}, {Path: "e", Kind: api.Link, Data: "d"},
		{Path: "d/z/y", Kind: api.Exec}, {Path: "d-"}, {Path: "d/b", Kind: api.File}, {Path: "\xff", Kind: api.File}, {Path: "B"},
	}
	want := []string{"B", "d/b", "d/z/y", "d/z", "d", "d-/a", "d-", "e", "\xff"}
	for range len(entries) {
		var got []string
		Walk(entries, func(entry api.Entry) {
			got = append(got, entry.Path)
			if !slices.Contains(entries, entry) {
				t.Errorf("Walk comes to %#v, which is not there", entry)
			}
		})
		if !slices.Equal(got, want) {
			t.Errorf("Walk goes %q, want %q", got, want)
		}
		entries = append(entries[1:], entries[0])
	}
	Walk(nil, func(entry api.Entry) { t.Errorf("Walk through nothing comes to %#v", entry) })
}

func TestSplit(t *testing.T) {
	for _, c := range []struct{ path, dir, name string }{
		{"a", Top, "a"}, {"a/b", "a", "b"}, {"a/b/c", "a/b", "c"}, {"\xff/é", "\xff", "é"},
	} {
		if dir, name := Split(c.path); dir != c.dir || name != c.name {
			t.Errorf("Split(%q) = %q, %q", c.path, dir, name)
		}
	}
}

func TestJoinAndDepth(t *testing.T) {
	for _, c := range []struct {
		dir, name, path string
		depth           int
	}{
		{Top, "a", "a", 1}, {"a", "b", "a/b", 2}, {"a/b/c", "d", "a/b/c/d", 4}, {"\xff", "é", "\xff/é", 2},
	} {
		if path := Join(c.dir, c.name); path != c.path || Depth(path) != c.depth {
			t.Errorf("Join(%q, %q) = %q, which has %d names", c.dir, c.name, path, Depth(path))
		}
	}
}

func TestLeadsOut(t *testing.T) {
	for _, c := range []struct {
		path, target string
		want         bool
	}{
		{"l", "x", false}, {"l", ".", false}, {"l", "..", true}, {"l", "x/..", false}, {"l", "x/../..", true}, {"l", "x/../../x", true},
		{"d/l", "..", false}, {"d/l", "../..", true}, {"d/l", "/", true}, {"d/l", "x//.././..", false}, {"a/b/c/d/l", "../../../..", false}, {"a/b/c/d/l", "../../../../..", true},
		{"l", "", false}, {"a/b/l", "/../x", true}, {"l", "...", false},
	} {
		if got := LeadsOut(c.path, c.target); got != c.want {
			t.Errorf("LeadsOut(%q, %q) = %t", c.path, c.target, got)
		}
	}
}
