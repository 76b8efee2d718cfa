package cellar_test

import (
	"path"
	"regexp"
	"slices"
	"strings"
	"testing"

	"cellar/api"
	"cellar/cellar"
)

func fileAt(path, data string) api.Entry {
	return api.Entry{Path: path, Kind: api.File, Data: data}
}

func execAt(path, data string) api.Entry {
	return api.Entry{Path: path, Kind: api.Exec, Data: data}
}

func dirAt(path string) api.Entry { return api.Entry{Path: path, Kind: api.Dir} }

func linkAt(path, target string) api.Entry {
	return api.Entry{Path: path, Kind: api.Link, Data: target}
}

// dirsTo is the directories that a path stands in.
func dirsTo(p string) []api.Entry {
	var l []api.Entry
	for i := range len(p) {
		if p[i] == '/' {
			l = append(l, dirAt(p[:i]))
		}
	}
	return l
}

// inDirs is an entry behind the directories that its path needs.
func inDirs(entry api.Entry) []api.Entry { return append(dirsTo(entry.Path), entry) }

// many is n entries at the top, links of the longest names and targets.
func many(n int) []api.Entry {
	var l []api.Entry
	for i := range n {
		l = append(l, linkAt(longName(i), strings.Repeat("t", api.MaxTarget)))
	}
	return l
}

// below is a tree as it is in a new directory.
func below(dir string, tree []api.Entry) []api.Entry {
	l := []api.Entry{dirAt(dir)}
	for _, entry := range tree {
		entry.Path = dir + "/" + entry.Path
		l = append(l, entry)
	}
	return l
}

// twin is another text with the digest of a blob.
func twin(t *testing.T, blob string) string {
	t.Helper()
	for a := range 256 {
		for b := range 256 {
			if s := string([]byte{byte(a), byte(b)}); s != blob && cellar.Digest(s) == cellar.Digest(blob) {
				return s
			}
		}
	}
	t.Fatalf("no two bytes have the digest of %q", blob)
	return ""
}

// orders is some of the orders in which a list may stand.
func orders(l []api.Entry) [][]api.Entry {
	back := slices.Clone(l)
	slices.Reverse(back)
	all := [][]api.Entry{slices.Clone(l), back}
	for i := range min(len(l), 5) {
		all = append(all, slices.Concat(l[i:], l[:i]), slices.Concat(back[i:], back[:i]))
	}
	for step := 3; step < 12; step += 4 {
		var mixed []api.Entry
		for first := range step {
			for i := first; i < len(l); i += step {
				mixed = append(mixed, l[i])
			}
		}
		all = append(all, mixed)
	}
	return all
}

var paths = regexp.MustCompile(`^[^/\x00]{1,12}(/[^/\x00]{1,12}){0,4}$`)

// slowIsTree asks of each two entries what a tree asks; it knows texts of ASCII only.
func slowIsTree(l []api.Entry) bool {
	for i, x := range l {
		if !paths.MatchString(x.Path) || slices.ContainsFunc(strings.Split(x.Path, "/"), func(s string) bool { return s == "." || s == ".." }) {
			return false
		}
		switch {
		case x.Kind == api.Dir && x.Data == "":
		case (x.Kind == api.File || x.Kind == api.Exec) && len(x.Data) <= 60:
		case x.Kind == api.Link && len(x.Data) >= 1 && len(x.Data) <= 30 && !strings.Contains(x.Data, "\x00"):
		default:
			return false
		}
		housed := path.Dir(x.Path) == "."
		for j, y := range l {
			if i != j && x.Path == y.Path {
				return false
			}
			housed = housed || y.Path == path.Dir(x.Path) && y.Kind == api.Dir
		}
		if !housed {
			return false
		}
	}
	return len(l) <= 40
}

// slowLeadsOut tidies the whole way up by the library: what is left of `..` at its
// front has come above the top.
func slowLeadsOut(x api.Entry) bool {
	way := path.Join(path.Dir(x.Path), x.Data)
	return x.Kind == api.Link && (x.Data[0] == '/' || way == ".." || strings.HasPrefix(way, "../"))
}

// slowBlobs is the blobs of what is in a directory, its own first, with no care for
// those that stand there twice. A prefix is a path with `/` behind it, or empty.
func slowBlobs(l []api.Entry, prefix string) []string {
	l = slices.Clone(l)
	slices.SortFunc(l, func(a, b api.Entry) int { return strings.Compare(a.Path, b.Path) })
	var bytes string
	var below []string
	count := 0
	for _, x := range l {
		name, in := strings.CutPrefix(x.Path, prefix)
		if !in || strings.Contains(name, "/") {
			continue
		}
		count++
		bytes += string([]byte{byte(x.Kind), byte(len(name))}) + name
		if x.Kind == api.Link {
			bytes += string([]byte{byte(len(x.Data))}) + x.Data
			continue
		}
		blobs := []string{x.Data}
		if x.Kind == api.Dir {
			blobs = slowBlobs(l, x.Path+"/")
		}
		size := len(blobs[0])
		bytes += slowDigest(blobs[0]) + string([]byte{byte(size % 256), byte(size / 256)})
		below = append(below, blobs...)
	}
	return append([]string{"T" + string([]byte{byte(count)}) + bytes}, below...)
}

func slowBuild(l []api.Entry) (string, []string, api.Errno) {
	if !slowIsTree(l) {
		return "", nil, api.ErrTree
	}
	if slices.ContainsFunc(l, slowLeadsOut) {
		return "", nil, api.ErrEscape
	}
	blobs := slowBlobs(l, "")
	root := slowDigest(blobs[0])
	slices.Sort(blobs)
	blobs = slices.Compact(blobs)
	slices.SortStableFunc(blobs, func(a, b string) int { return strings.Compare(slowDigest(a), slowDigest(b)) })
	for i := range blobs {
		if i > 0 && slowDigest(blobs[i-1]) == slowDigest(blobs[i]) {
			return "", nil, api.ErrClash
		}
	}
	return root, blobs, api.OK
}
