// Package upload brings trees into stores, over a link.
package upload

import (
	"cmp"

	"cellar/api"
	"cellar/blobs"
	"cellar/bounds"
	"cellar/link"
	"cellar/store"
)

// Tree brings into a store what it lacks of a tree, and answers the root.
func Tree(into *store.Store, entries []api.Entry, p api.Plan) (string, api.Sent, api.Errno) {
	set, e := blobs.Of(entries)
	if e != api.OK {
		return "", api.Sent{}, e
	}
	over, e := link.New(p)
	if e != api.OK || !bounds.Within(p.Batch, 1, api.MaxBatch) {
		return "", api.Sent{}, api.ErrArg
	}
	if e := bring(set, p.Batch, over, into); e != api.OK {
		return "", over.Sent, e
	}
	return set.Root, over.Sent, api.OK
}

func bring(set blobs.Set, most int, over *link.Link, into *store.Store) api.Errno {
	digests := set.Digests()
	missing, e := link.Send(over, nil, func() []string { return into.Missing(digests) })
	if e != api.OK {
		return e
	}
	for _, batch := range batches(set, missing, most) {
		refused, lost := link.Send(over, batch, func() api.Errno { return putAll(into, batch) })
		if e := cmp.Or(lost, refused); e != api.OK {
			return e
		}
	}
	return api.OK
}

// batches is the blobs of the digests, cut into lists that each have as many as
// have no more than so many bytes together, but at least one.
func batches(set blobs.Set, digests []string, most int) [][]string {
	var list [][]string
	left := 0
	for _, digest := range digests {
		bytes := set.Bytes(digest)
		if len(list) == 0 || len(bytes) > left {
			list = append(list, nil)
			left = most
		}
		// Below 0 behind a blob that is larger than a batch: then not even the empty
		// blob has a place beside it.
		left -= len(bytes)
		last := len(list) - 1
		list[last] = append(list[last], bytes)
	}
	return list
}

// putAll is what the store does with a batch that it hears.
func putAll(into *store.Store, batch []string) api.Errno {
	for _, bytes := range batch {
		if e := into.Put(bytes); e != api.OK {
			return e
		}
	}
	return api.OK
}
