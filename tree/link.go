package tree

import (
	"strings"

	"cellar/api"
)

// AnyLeadsOut tells whether there is a link in a tree that leads out of it.
func AnyLeadsOut(entries []api.Entry) bool {
	out := false
	Walk(entries, func(entry api.Entry) {
		if entry.Kind == api.Link && LeadsOut(entry.Path, entry.Data) {
			out = true
		}
	})
	return out
}

// LeadsOut tells whether a link at this path goes above the tree's top by its target.
func LeadsOut(path, target string) bool {
	if strings.HasPrefix(target, "/") {
		return true
	}
	// The way begins at the link's directory, which its own name is not part of.
	below := Depth(path) - 1
	for _, part := range strings.Split(target, "/") {
		below += down(part)
		// At each part, as one that comes back is out all the same.
		if below < 0 {
			return true
		}
	}
	return false
}

// down is how many directories a part of a target goes down.
func down(part string) int {
	switch part {
	case "", ".":
		return 0
	case "..":
		return -1
	}
	return 1
}
