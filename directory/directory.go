// Package directory makes bytes of directories, and directories of bytes.
package directory

import (
	"cellar/api"
	"cellar/bounds"
	"cellar/text"
)

// shape is what an item tells beside its name and kind.
type shape int

const (
	shapeless shape = iota // a kind that is none
	ofBlob                 // a digest and a size
	ofLink                 // a target
)

func shapeOf(kind int) shape {
	switch kind {
	case api.Dir, api.File, api.Exec:
		return ofBlob
	case api.Link:
		return ofLink
	}
	return shapeless
}

func isItem(item api.Item) bool {
	if !text.IsName(item.Name) {
		return false
	}
	switch shapeOf(item.Kind) {
	case ofBlob:
		return text.IsDigest(item.Digest) && bounds.Within(item.Size, 0, api.MaxBlob) && item.Target == ""
	case ofLink:
		return text.IsTarget(item.Target) && item.Digest == "" && item.Size == 0
	}
	return false
}

func isDirectory(items []api.Item) bool {
	if len(items) > api.MaxEntries {
		return false
	}
	for i, item := range items {
		if !isItem(item) {
			return false
		}
		if i > 0 && items[i-1].Name >= item.Name {
			return false
		}
	}
	return true
}
