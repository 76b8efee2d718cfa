package tree

import (
	"slices"
	"testing"

	"cellar/api"
)

func TestWalk(t *testing.T) {
	entries := []api.Entry{
		{Path: "d/z"}, {Path: "d-/a", Kind: api.File}, {Path: "d"}, {Path: "e", Kind: api.Link, Data: "d"},
		{Path: "d/z/y", Kind: api.Exec}, {Path: "d-"}, {Path: "d/b", Kind: api.File}, {Path: "\xff", Kind: api.File}, {Path: "B"},
	}
	want := []string{"B", "d/b", "d/z/y", "d/z", "d", "d-/a", "d-", "e", "\xff"}
	for range len(entries) {
		var got []string
		Walk(entries, func(entry api.Entry) {
			got = append(got, entry.Path)
			if !slices.Contains(entries, entry) {
				t.Errorf("Walk comes to %#v, which is not there", entry)
			}
		})
		if !slices.Equal(got, want) {
			t.Errorf("Walk goes %q, want %q", got, want)
		}
		entries = append(entries[1:], entries[0])
	}
	Walk(nil, func(entry api.Entry) { t.Errorf("Walk through nothing comes to %#v", entry) })
}

func TestSplit(t *testing.T) {
	for _, c := range []struct{ path, dir, name string }{
		{"a", Top, "a"}, {"a/b", "a", "b"}, {"a/b/c", "a/b", "c"}, {"\xff/é", "\xff", "é"},
	} {
		if dir, name := Split(c.path); dir != c.dir || name != c.name {
			t.Errorf("Split(%q) = %q, %q", c.path, dir, name)
		}
	}
}

func TestLeadsOut(t *testing.T) {
	for _, c := range []struct {
		below  int
		target string
		want   bool
	}{
		{0, "x", false}, {0, ".", false}, {0, "..", true}, {0, "x/..", false}, {0, "x/../..", true}, {0, "x/../../x", true},
		{1, "..", false}, {1, "../..", true}, {1, "/", true}, {1, "x//.././..", false}, {4, "../../../..", false}, {4, "../../../../..", true},
		{0, "", false}, {2, "/../x", true}, {0, "...", false},
	} {
		if got := LeadsOut(c.below, c.target); got != c.want {
			t.Errorf("LeadsOut(%d, %q) = %t", c.below, c.target, got)
		}
	}
}
