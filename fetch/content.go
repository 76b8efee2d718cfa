package fetch

import (
	"cellar/api"
	"cellar/bounds"
	"cellar/directory"
	"cellar/store"
	"cellar/text"
	"cellar/tree"
)

// content is what an item tells of: the bytes of a file or the target of a link, or
// what is in a Dir.
func content(from *store.Store, path string, item api.Item) (data string, inside []api.Item, e api.Errno) {
	if item.Kind == api.Link {
		return target(path, item)
	}
	bytes, e := blobUnder(from, item.Digest)
	if e != api.OK {
		return "", nil, e
	}
	if len(bytes) != item.Size {
		return "", nil, api.ErrSpoilt
	}
	if item.Kind == api.Dir {
		inside, e = itemsOf(bytes)
		return "", inside, e
	}
	if !bounds.Within(len(bytes), 0, api.MaxData) {
		return "", nil, api.ErrSpoilt
	}
	return bytes, nil, api.OK
}

func target(path string, item api.Item) (string, []api.Item, api.Errno) {
	if tree.LeadsOut(path, item.Target) {
		return "", nil, api.ErrSpoilt
	}
	return item.Target, nil, api.OK
}

func directoryUnder(from *store.Store, digest string) ([]api.Item, api.Errno) {
	bytes, e := blobUnder(from, digest)
	if e != api.OK {
		return nil, e
	}
	return itemsOf(bytes)
}

// blobUnder is the blob of a digest: what stands under it need not be that.
func blobUnder(from *store.Store, digest string) (string, api.Errno) {
	bytes, e := from.Get(digest)
	if e != api.OK {
		return "", e
	}
	if text.Digest(bytes) != digest {
		return "", api.ErrSpoilt
	}
	return bytes, api.OK
}

func itemsOf(bytes string) ([]api.Item, api.Errno) {
	items, e := directory.Decode(bytes)
	if e != api.OK {
		return nil, api.ErrSpoilt
	}
	return items, api.OK
}
