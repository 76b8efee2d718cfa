// Package blobs makes the blobs of trees, and finds where those of two trees clash.
package blobs

import (
	"maps"
	"slices"
	"strings"

	"cellar/api"
	"cellar/directory"
	"cellar/text"
	"cellar/tree"
)

type blob struct{ bytes string }

// Set is the blobs of a tree, and its root.
type Set struct {
	Root  string
	under map[string]blob
}

// Of makes the blobs of a tree. They are new memory, and no two have one digest.
func Of(entries []api.Entry) (Set, api.Errno) {
	if !tree.Is(entries) {
		return Set{}, api.ErrTree
	}
	if tree.AnyLeadsOut(entries) {
		return Set{}, api.ErrEscape
	}
	under := map[string]blob{}
	clash := false
	root := gather(entries, func(bytes string) string {
		digest := text.Digest(bytes)
		if before, there := under[digest]; there && before.bytes != bytes {
			clash = true
		}
		under[digest] = blob{strings.Clone(bytes)}
		return digest
	})
	if clash {
		return Set{}, api.ErrClash
	}
	return Set{Root: root, under: under}, api.OK
}

// Digests is those of all the blobs, rising.
func (s Set) Digests() []string { return slices.Sorted(maps.Keys(s.under)) }

// Bytes is the blob of a digest that is one of Digests.
func (s Set) Bytes(digest string) string { return s.under[digest].bytes }

// List is all the blobs, by rising digests.
func (s Set) List() []string {
	var list []string
	for _, digest := range s.Digests() {
		list = append(list, s.Bytes(digest))
	}
	return list
}

// gather hands each blob of a tree to keep, which answers its digest, and answers
// the root.
func gather(entries []api.Entry, keep func(bytes string) string) string {
	items := map[string][]api.Item{}
	tree.Walk(entries, func(entry api.Entry) {
		dir, name := tree.Split(entry.Path)
		item := api.Item{Name: name, Kind: entry.Kind}
		switch entry.Kind {
		case api.Link:
			item.Target = entry.Data
		case api.Dir:
			bytes := encode(items[entry.Path])
			item.Digest, item.Size = keep(bytes), len(bytes)
		default:
			item.Digest, item.Size = keep(entry.Data), len(entry.Data)
		}
		items[dir] = append(items[dir], item)
	})
	return keep(encode(items[tree.Top]))
}

func encode(items []api.Item) string {
	// What is in a directory of a tree always makes a directory: 40 items of the
	// longest names and targets have fewer bytes than MaxBlob.
	bytes, _ := directory.Encode(items)
	return bytes
}
