package directory

import "cellar/api"

// mark is the byte that a directory's bytes begin with.
const mark = 'T'

// Encode makes the bytes of a directory.
func Encode(items []api.Item) (string, api.Errno) {
	if !isDirectory(items) {
		return "", api.ErrBytes
	}
	b := []byte{mark, byte(len(items))}
	for _, item := range items {
		b = appendItem(b, item)
	}
	return string(b), api.OK
}

func appendItem(b []byte, item api.Item) []byte {
	b = append(b, byte(item.Kind))
	b = appendCounted(b, item.Name)
	if shapeOf(item.Kind) == ofLink {
		return appendCounted(b, item.Target)
	}
	b = append(b, item.Digest...)
	return append(b, byte(item.Size%256), byte(item.Size/256))
}

func appendCounted(b []byte, s string) []byte {
	b = append(b, byte(len(s)))
	return append(b, s...)
}
