// Package store keeps blobs, each under a text, in a room of so many bytes.
package store

import (
	"strings"

	"cellar/api"
	"cellar/bounds"
	"cellar/text"
)

type blob struct{ bytes string }

// Store is what stands under which text, and how many bytes may be and are in it.
type Store struct {
	room, used int
	under      map[string]blob
}

// New makes an empty store.
func New(room int) (*Store, api.Errno) {
	if !bounds.Within(room, 0, api.MaxRoom) {
		return nil, api.ErrArg
	}
	return &Store{room: room, under: map[string]blob{}}, api.OK
}

// Put lays a blob under its digest, if nothing stands there and there is room.
func (s *Store) Put(bytes string) api.Errno {
	digest := text.Digest(bytes)
	if s.has(digest) {
		return api.OK
	}
	if !bounds.Within(s.used+len(bytes), 0, s.room) {
		return api.ErrRoom
	}
	s.lay(digest, bytes)
	return api.OK
}

// Get is what stands under a text.
func (s *Store) Get(digest string) (string, api.Errno) {
	if !s.has(digest) {
		return "", api.ErrNone
	}
	return strings.Clone(s.under[digest].bytes), api.OK
}

// Missing is those of the texts under which nothing stands, each once.
func (s *Store) Missing(digests []string) []string {
	var missing []string
	told := map[string]int{}
	for _, digest := range digests {
		if s.has(digest) || told[digest] > 0 {
			continue
		}
		told[digest]++
		missing = append(missing, strings.Clone(digest))
	}
	return missing
}

// Plant lays any bytes under any text, in place of what stood there; no bytes at
// all leave nothing there.
func (s *Store) Plant(digest, bytes string) {
	s.drop(digest)
	if bytes != "" {
		s.lay(digest, bytes)
	}
}

func (s *Store) has(digest string) bool {
	// Asked of the map, not of the bytes: the empty blob may stand in a store.
	_, there := s.under[digest]
	return there
}

// lay needs a text under which nothing stands. It copies, so that nothing is kept
// of what was handed in.
func (s *Store) lay(digest, bytes string) {
	s.under[strings.Clone(digest)] = blob{strings.Clone(bytes)}
	s.used += len(bytes)
}

func (s *Store) drop(digest string) {
	s.used -= len(s.under[digest].bytes)
	delete(s.under, digest)
}
