package blobs

import "cellar/api"

// Clash finds two different texts with one digest, a blob of a and one of b.
func Clash(a, b Set) (string, string, api.Errno) {
	if a.Root != b.Root {
		return "", "", api.ErrSame
	}
	for _, digest := range a.Digests() {
		if other, there := b.under[digest]; there && other.bytes != a.Bytes(digest) {
			return a.Bytes(digest), other.bytes, api.OK
		}
	}
	// From one root on, each digest told the same blob in both, so the trees are the same.
	return "", "", api.ErrSame
}
