// Package fetch gets trees out of stores, and trusts nothing that stands there.
package fetch

import (
	"cellar/api"
	"cellar/store"
	"cellar/tree"
)

// Tree is the tree of a root, in order, if it has no more than so many entries, and
// none deeper than depth.
func Tree(from *store.Store, root string, entries, depth int) ([]api.Entry, api.Errno) {
	top, e := directoryUnder(from, root)
	if e != api.OK {
		return nil, e
	}
	// No budget is greater than what a tree may have.
	entries, depth = min(entries, api.MaxEntries), min(depth, api.MaxDepth)
	var list []api.Entry
	e = through(tree.Top, top, func(path string, item api.Item) ([]api.Item, api.Errno) {
		if len(list)+1 > entries || tree.Depth(path) > depth {
			return nil, api.ErrBudget
		}
		data, inside, e := content(from, path, item)
		if e != api.OK {
			return nil, e
		}
		list = append(list, api.Entry{Path: path, Kind: item.Kind, Data: data})
		return inside, api.OK
	})
	if e != api.OK {
		return nil, e
	}
	return list, api.OK
}

// through calls visit for each item of a directory; visit answers what is in it,
// which is gone through ahead of the next item. It ends, whatever stands in the
// store, only because visit has a budget.
func through(dir string, items []api.Item, visit func(path string, item api.Item) ([]api.Item, api.Errno)) api.Errno {
	for _, item := range items {
		path := tree.Join(dir, item.Name)
		inside, e := visit(path, item)
		if e != api.OK {
			return e
		}
		if e := through(path, inside, visit); e != api.OK {
			return e
		}
	}
	return api.OK
}
