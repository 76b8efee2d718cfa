package directory

import (
	"strings"

	"cellar/api"
	"cellar/text"
)

// Decode makes the directory of its bytes.
func Decode(blob string) ([]api.Item, api.Errno) {
	items, whole := read(blob)
	if !whole || !isDirectory(items) {
		return nil, api.ErrBytes
	}
	return items, api.OK
}

// read takes the items out of the bytes, and tells whether just these bytes were
// needed; whether the items make a directory is not looked at.
func read(blob string) ([]api.Item, bool) {
	r := reader{rest: blob}
	if r.one() != mark {
		return nil, false
	}
	count := r.one()
	var items []api.Item
	for range count {
		items = append(items, r.item())
		if r.short {
			return nil, false
		}
	}
	return items, !r.short && r.rest == ""
}

// reader takes bytes from the front of rest; short tells that there were once too
// few, so that it need be asked only after several takings.
type reader struct {
	rest  string
	short bool
}

func (r *reader) take(n int) string {
	if n > len(r.rest) {
		r.short = true
		r.rest = ""
		return ""
	}
	// A copy, as an answer shares no memory with the blob that was handed in.
	taken := strings.Clone(r.rest[:n])
	r.rest = r.rest[n:]
	return taken
}

func (r *reader) one() int {
	s := r.take(1)
	if r.short {
		return 0
	}
	return int(s[0])
}

func (r *reader) item() api.Item {
	item := api.Item{Kind: r.one()}
	item.Name = r.take(r.one())
	if shapeOf(item.Kind) == ofLink {
		item.Target = r.take(r.one())
		return item
	}
	// A kind that is none is read as if it had a digest: isItem refuses it anyhow.
	item.Digest = r.take(text.DigestLength)
	item.Size = r.one()
	item.Size += 256 * r.one()
	return item
}
