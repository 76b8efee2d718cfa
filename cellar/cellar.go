// Package cellar: trees of files as blobs under digests: see DOC.md.
package cellar

import (
	"cellar/api"
	"cellar/blobs"
	"cellar/directory"
	"cellar/fetch"
	"cellar/store"
	"cellar/text"
	"cellar/upload"
)

// Digest is that of a blob (P3).
func Digest(blob string) string { return text.Digest(blob) }

// Encode makes the bytes of a directory (P4).
func Encode(l []api.Item) (string, api.Errno) { return directory.Encode(l) }

// Decode makes a directory of bytes (P5).
func Decode(blob string) ([]api.Item, api.Errno) { return directory.Decode(blob) }

// Build makes the blobs of a tree, and its root (P6).
func Build(tree []api.Entry) (string, []string, api.Errno) {
	set, e := blobs.Of(tree)
	return set.Root, set.List(), e
}

// Clash tells of two trees of one root where they are not the same (P7).
func Clash(a, b []api.Entry) (string, string, api.Errno) {
	first, e := blobs.Of(a)
	if e != api.OK {
		return "", "", e
	}
	second, e := blobs.Of(b)
	if e != api.OK {
		return "", "", e
	}
	return blobs.Clash(first, second)
}

// Store keeps blobs.
type Store struct{ kept *store.Store }

// New makes an empty store (P8).
func New(room int) (*Store, api.Errno) {
	kept, e := store.New(room)
	if e != api.OK {
		return nil, e
	}
	return &Store{kept}, api.OK
}

// Put puts a blob in (P8).
func (s *Store) Put(blob string) api.Errno { return s.kept.Put(blob) }

// Get gets a blob (P8).
func (s *Store) Get(digest string) (string, api.Errno) { return s.kept.Get(digest) }

// Missing tells which of some are not there (P8).
func (s *Store) Missing(digests []string) []string { return s.kept.Missing(digests) }

// Plant puts any bytes under any digest (P8).
func (s *Store) Plant(digest, blob string) { s.kept.Plant(digest, blob) }

// Upload brings a tree into the store, over a link (P9).
func (s *Store) Upload(tree []api.Entry, p api.Plan) (string, api.Sent, api.Errno) {
	return upload.Tree(s.kept, tree, p)
}

// Fetch gets a tree by its root (P10).
func (s *Store) Fetch(root string, entries, depth int) ([]api.Entry, api.Errno) {
	return fetch.Tree(s.kept, root, entries, depth)
}
