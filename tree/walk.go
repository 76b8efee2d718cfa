package tree

import (
	"slices"
	"strings"

	"cellar/api"
)

// Walk calls visit for each entry of a tree: what is in one directory by rising
// names, and each Dir behind all that is in it, as its blob is made of theirs.
func Walk(entries []api.Entry, visit func(api.Entry)) {
	inside := map[string][]api.Entry{}
	for _, entry := range entries {
		dir, _ := Split(entry.Path)
		inside[dir] = append(inside[dir], entry)
	}
	var through func(dir string)
	through = func(dir string) {
		slices.SortFunc(inside[dir], byPath)
		for _, entry := range inside[dir] {
			if entry.Kind == api.Dir {
				through(entry.Path)
			}
			visit(entry)
		}
	}
	through(Top)
}

// byPath orders by names only what is in one directory: across directories a name's
// bytes may stand ahead of the byte between names.
func byPath(a, b api.Entry) int { return strings.Compare(a.Path, b.Path) }
