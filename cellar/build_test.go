package cellar_test

import (
	"math"
	"slices"
	"strconv"
	"strings"
	"testing"

	"cellar/api"
	"cellar/cellar"
)

// trees is lists of which Build gives OK.
func trees() [][]api.Entry {
	x := strings.Repeat("x", 60)
	return [][]api.Entry{
		nil,
		{},
		{fileAt("a", "x")},
		{fileAt("a", "")},
		{execAt("a", x)},
		{fileAt("a", x)},
		{dirAt("a")},
		{linkAt("a", "b")},
		{linkAt("a", strings.Repeat("t", 30))},
		{fileAt("twelve-bytes", "x")},
		{fileAt("...", "x"), fileAt(" ", "y"), dirAt("..a"), linkAt(".a", "a")},
		// Two files of the same bytes, and a file with those of a directory.
		{fileAt("a", "x"), fileAt("b", "x"), execAt("c", "x")},
		{fileAt("a", "T\x00"), dirAt("b"), dirAt("c")},
		{fileAt("a", x), dirAt("b"), fileAt("b/a", x), dirAt("c"), fileAt("c/a", x)},
		inDirs(fileAt("a/b/c/d/e", "x")),
		inDirs(dirAt("a/b/c/d/e")),
		inDirs(linkAt("a/b/c/d/e", "../../../../x")),
		inDirs(fileAt("twelve-bytes/twelve-bytes/twelve-bytes/twelve-bytes/twelve-bytes", x)),
		// Names whose bytes stand ahead of the byte between names, and behind it.
		{dirAt("d"), dirAt("d-"), dirAt("d0"), fileAt("d/z", "1"), fileAt("d-/z", "2"), fileAt("d0/z", "3"), linkAt("d.", "d-")},
		{dirAt("B"), dirAt("a"), fileAt("a/B", "1"), fileAt("a/a", "2"), fileAt("B/a", "3"), fileAt("aa", "4"), execAt("b", "5")},
		{fileAt("~", "1"), fileAt("}", "2"), fileAt("0", "3"), linkAt("l", "~")},
		many(40),
		below("d", many(39)),
		below("d", below("e", many(38))),
	}
}

func TestBuildOfExamples(t *testing.T) {
	if root, blobs, e := cellar.Build(nil); root != "5c7" || !slices.Equal(blobs, []string{"T\x00"}) || e != api.OK {
		t.Errorf("P6: Build of nothing = %q, %q, %d", root, blobs, e)
	}
	// Digest("x") is 263+121: 384, 180; that of the top is reckoned anew.
	top := "T\x01\x01\x01a180\x01\x00"
	want := []string{"x", top}
	if slowDigest(top) < "180" {
		slices.Reverse(want)
	}
	root, blobs, e := cellar.Build([]api.Entry{fileAt("a", "x")})
	if root != slowDigest(top) || !slices.Equal(blobs, want) || e != api.OK {
		t.Errorf("P6: Build of a file = %q, %q, %d, want %q", root, blobs, e, want)
	}
}

func TestBuild(t *testing.T) {
	for _, tree := range trees() {
		root, blobs, e := slowBuild(tree)
		if e != api.OK {
			t.Fatalf("no tree to test by: %#v: %d", tree, e)
		}
		for _, l := range orders(tree) {
			if gotRoot, got, e := cellar.Build(l); gotRoot != root || !slices.Equal(got, blobs) || e != api.OK {
				t.Errorf("P6: Build(%#v) = %q, %q, %d, want %q, %q", l, gotRoot, got, e, root, blobs)
			}
		}
	}
}

func TestBuildOfAnyBytes(t *testing.T) {
	tree := []api.Entry{dirAt("\xff"), fileAt("\xff/\x80\n", "\x00\xff\x00"), linkAt("\xff/\x01", "\xfe"), fileAt("é", "/")}
	inner := "T\x02\x03\x01\x01\x01\xfe\x01\x02\x80\n" + slowDigest("\x00\xff\x00") + "\x03\x00"
	top := "T\x02\x01\x02é" + slowDigest("/") + "\x01\x00\x00\x01\xff" + slowDigest(inner) + string([]byte{byte(len(inner)), 0})
	root, blobs, e := cellar.Build(tree)
	if root != slowDigest(top) || e != api.OK || len(blobs) != 4 {
		t.Fatalf("P6: Build = %q, %q, %d", root, blobs, e)
	}
	for _, blob := range []string{inner, top, "/", "\x00\xff\x00"} {
		if !slices.Contains(blobs, blob) {
			t.Errorf("P6: Build = %q, without %q", blobs, blob)
		}
	}
}

// noTrees is lists that are none, each by one rule alone.
func noTrees() map[string][]api.Entry {
	m := map[string][]api.Entry{
		"41 entries":               many(41),
		"41 entries in all":        below("d", many(40)),
		"80 entries":               many(80),
		"296 entries":              many(296),
		"6 names":                  inDirs(fileAt("a/b/c/d/e/f", "")),
		"6 names of a link":        inDirs(linkAt("a/b/c/d/e/f", "x")),
		"6 names of a dir":         inDirs(dirAt("a/b/c/d/e/f")),
		"a path twice":             {fileAt("a", "x"), fileAt("a", "x")},
		"a path twice, of kinds":   {dirAt("a"), fileAt("b", ""), linkAt("a", "x")},
		"a dir twice":              {dirAt("a"), dirAt("a")},
		"a path twice below":       {dirAt("d"), fileAt("d/a", "x"), fileAt("d/a", "y")},
		"no directory":             {fileAt("a/b", "")},
		"no directory in between":  {dirAt("a"), fileAt("a/b/c", "")},
		"no directory at the top":  {dirAt("a/b"), fileAt("a/b/c", "")},
		"only one like it":         {dirAt("a"), dirAt("aa"), fileAt("aaa/b", "")},
		"a directory too deep":     {dirAt("a"), dirAt("a/b"), fileAt("b/c", "")},
		"in a file":                {fileAt("a", ""), fileAt("a/b", "")},
		"in a tool":                {execAt("a", ""), dirAt("a/b")},
		"in a link":                {linkAt("a", "d"), dirAt("d"), linkAt("a/b", "x")},
		"in a link, the link last": {dirAt("d"), linkAt("a/b", "x"), linkAt("a", "d")},
		"a dir with data":          {{Path: "a", Kind: api.Dir, Data: "x"}},
		"a dir with a byte 0":      {{Path: "a", Kind: api.Dir, Data: "\x00"}},
		"a dir with a dir's bytes": {{Path: "a", Kind: api.Dir, Data: "T\x00"}},
		"an empty entry":           {{}},
		"one bad behind good":      {dirAt("a"), fileAt("a/b", "x"), linkAt("a/c", "")},
	}
	for _, s := range []string{"", ".", "..", "\x00", "a\x00", "thirteen-byte", strings.Repeat("n", 100000)} {
		m["a file's name "+s] = []api.Entry{fileAt(s, "x")}
		m["a dir's name "+s] = []api.Entry{dirAt(s)}
		m["a name below "+s] = []api.Entry{dirAt("a"), linkAt("a/"+s, "x")}
		m["a name above "+s] = []api.Entry{dirAt(s), fileAt(s+"/a", "x")}
		m["a name between "+s] = []api.Entry{dirAt("a"), dirAt("a/" + s), fileAt("a/"+s+"/b", "x")}
	}
	for _, s := range []string{"/", "//", "/a", "a/", "a//b", "//a", "a//", "a/b/", strings.Repeat("/", 100000), strings.Repeat("a/", 100000) + "a"} {
		m["the path "+s] = []api.Entry{dirAt("a"), dirAt("a/b"), fileAt(s, "x")}
	}
	for name, data := range map[string]string{"61": strings.Repeat("x", 61), "many": strings.Repeat("x", 1000000)} {
		m["data of a file, bytes: "+name] = []api.Entry{fileAt("a", data)}
		m["data of a tool, bytes: "+name] = []api.Entry{execAt("a", data)}
	}
	for _, s := range []string{"", "\x00", "a\x00", strings.Repeat("t", 31), strings.Repeat("t", 1000000)} {
		m["the target "+s] = []api.Entry{linkAt("a", s)}
	}
	for name, kind := range map[string]int{"-1": -1, "4": 4, "256": 256, "257": 257, "the least": math.MinInt, "the most": math.MaxInt} {
		m["the kind "+name] = []api.Entry{{Path: "a", Kind: kind}}
		m["the kind with data "+name] = []api.Entry{{Path: "a", Kind: kind, Data: "x"}}
	}
	return m
}

func fails(t *testing.T, what string, tree []api.Entry, want api.Errno) {
	t.Helper()
	if root, blobs, e := cellar.Build(tree); root != "" || blobs != nil || e != want {
		t.Errorf("P1, P6: %.60q: Build = %q, %q, %d, want %d", what, root, blobs, e, want)
	}
}

func TestBuildNoTree(t *testing.T) {
	for what, tree := range noTrees() {
		fails(t, what, tree, api.ErrTree)
		back := slices.Clone(tree)
		slices.Reverse(back)
		fails(t, "backwards: "+what, back, api.ErrTree)
	}
}

func TestBuildOfAVeryLongList(t *testing.T) {
	fails(t, "a million entries", make([]api.Entry, 1000000), api.ErrTree)
	fails(t, "a million dirs", slices.Repeat([]api.Entry{dirAt("a")}, 1000000), api.ErrTree)
	long := strings.Repeat("../", 10000000)
	fails(t, "long texts", []api.Entry{{Path: long, Kind: api.Link, Data: long}}, api.ErrTree)
	fails(t, "a long target", []api.Entry{linkAt("a", long)}, api.ErrTree)
}

func TestLinks(t *testing.T) {
	for _, c := range []struct {
		path, target string
		want         api.Errno
	}{
		{"d/l", "../x", api.OK}, {"d/l", "../../x", api.ErrEscape}, {"l", "x/../..", api.ErrEscape},
		{"l", "/", api.ErrEscape}, {"l", "/x", api.ErrEscape}, {"l", "//", api.ErrEscape}, {"a/b/l", "/x", api.ErrEscape}, {"a/b/c/d/l", "/a", api.ErrEscape},
		{"l", "..", api.ErrEscape}, {"l", "../", api.ErrEscape}, {"l", "../l", api.ErrEscape}, {"l", "./..", api.ErrEscape}, {"l", "x/../../x/x/x", api.ErrEscape}, {"l", ".//../x", api.ErrEscape},
		{"l", ".", api.OK}, {"l", "./", api.OK}, {"l", "x//", api.OK}, {"l", "x/..", api.OK}, {"l", "x/../x/..", api.OK}, {"l", "x/./..", api.OK}, {"l", "x//..", api.OK},
		{"l", "x//../..", api.ErrEscape}, {"l", "x/./../..", api.ErrEscape}, {"l", "x/y/../../..", api.ErrEscape}, {"l", "x/y/../..", api.OK},
		{"l", "...", api.OK}, {"l", "..x", api.OK}, {"l", "x..", api.OK}, {"l", ".. ", api.OK}, {"l", "..\\..", api.OK}, {"l", ".../..", api.OK}, {"l", ".../../..", api.ErrEscape}, {"l", "x /../..", api.ErrEscape},
		{"d/l", "..", api.OK}, {"d/l", "../", api.OK}, {"d/l", "../.", api.OK}, {"d/l", "../..", api.ErrEscape}, {"d/l", "../../d", api.ErrEscape}, {"d/l", "..//..", api.ErrEscape}, {"d/l", "./../d/../d", api.OK}, {"d/l", "../d/../..", api.ErrEscape},
		{"a/b/l", "../..", api.OK}, {"a/b/l", "../../..", api.ErrEscape}, {"a/b/l", "../../../a/b", api.ErrEscape},
		{"a/b/c/d/l", "../../../..", api.OK}, {"a/b/c/d/l", "../../../../..", api.ErrEscape}, {"a/b/c/d/l", "../../../../x/../..", api.ErrEscape},
		{"l", strings.Repeat("x/", 10) + strings.Repeat("../", 3), api.OK}, {"l", strings.Repeat("x/", 6) + strings.Repeat("../", 6), api.OK}, {"l", strings.Repeat("x/", 5) + strings.Repeat("../", 6), api.ErrEscape},
	} {
		tree := inDirs(linkAt(c.path, c.target))
		root, blobs, e := cellar.Build(tree)
		if e != c.want || (e != api.OK) != (root == "") || (e != api.OK) != (blobs == nil) {
			t.Errorf("P6: a link %s to %s: Build = %q, %q, %d, want %d", c.path, c.target, root, blobs, e, c.want)
		}
		tree = append(tree, fileAt("other", "x"), linkAt("fine", "x"))
		if _, _, e := cellar.Build(tree); e != c.want {
			t.Errorf("P6: a link %s to %s among others: %d, want %d", c.path, c.target, e, c.want)
		}
	}
}

// A way out is only in a link: the bytes of files mean nothing.
func TestFilesDoNotLeadOut(t *testing.T) {
	for _, s := range []string{"/", "..", "../..", "/x"} {
		if _, _, e := cellar.Build([]api.Entry{fileAt("a", s), dirAt("d"), execAt("d/b", s)}); e != api.OK {
			t.Errorf("P6: Build with files of %q = %d", s, e)
		}
	}
}

// clashing is trees with two different blobs of one digest.
func clashing(t *testing.T) map[string][]api.Entry {
	t.Helper()
	inner := []api.Entry{fileAt("a", "x"), linkAt("l", "a")}
	innerTwin := twin(t, slowBlobs(inner, "")[0])
	topTwin := func(l []api.Entry) []api.Entry { // with a file whose bytes have the top's digest
		for i := range 1000000 {
			data := strconv.Itoa(i)
			with := append(slices.Clone(l), fileAt("t", data))
			if slowDigest(slowBlobs(with, "")[0]) == slowDigest(data) {
				return with
			}
		}
		t.Fatal("no file has the digest of its own top")
		return nil
	}
	return map[string][]api.Entry{
		"two files":               {fileAt("a", "0\x05"), fileAt("b", "?\x99")},
		"a file and a tool below": {dirAt("d"), fileAt("d/a", "0\x05"), execAt("b", "?\x99")},
		"files of two lengths":    {fileAt("a", "abcdef"), fileAt("b", twin(t, "abcdef"))},
		"an empty file":           {fileAt("a", ""), fileAt("b", twin(t, ""))},
		"a file and a directory":  append(below("d", inner), fileAt("b", innerTwin)),
		"a file and an empty one": {dirAt("d"), fileAt("a", twin(t, "T\x00"))},
		"a file in its directory": append(below("d", below("e", inner)), fileAt("d/e/b", innerTwin), fileAt("d/b", innerTwin), dirAt("d/f"), fileAt("d/f/a", twin(t, innerTwin))),
		"a file and the top":      topTwin(inner),
	}
}

func TestBuildWithClashes(t *testing.T) {
	for what, tree := range clashing(t) {
		for _, l := range orders(tree) {
			fails(t, what, l, api.ErrClash)
		}
	}
}

// Two directories of one digest are found among those with one link each.
func TestBuildWithDirectoriesThatClash(t *testing.T) {
	targets := map[string]string{}
	for i := range 10000 {
		target := string([]byte{byte('a' + i%26), byte('a' + i/26%26), byte('a' + i/676)})
		digest := slowDigest(slowBlobs([]api.Entry{linkAt("l", target)}, "")[0])
		if other, there := targets[digest]; there {
			tree := append(below("a", []api.Entry{linkAt("l", target)}), below("b", []api.Entry{linkAt("l", other)})...)
			fails(t, "two directories", tree, api.ErrClash)
			return
		}
		targets[digest] = target
	}
	t.Fatal("no two directories have one digest")
}

func TestOrderOfBuildsErrors(t *testing.T) {
	clash := []api.Entry{fileAt("p", "0\x05"), fileAt("q", "?\x99")}
	escape := []api.Entry{linkAt("r", "..")}
	none := []api.Entry{{Path: "s", Kind: 4}}
	for _, c := range []struct {
		what  string
		parts [][]api.Entry
		want  api.Errno
	}{
		{"all three", [][]api.Entry{clash, escape, none}, api.ErrTree},
		{"no tree, and a clash", [][]api.Entry{clash, none}, api.ErrTree},
		{"no tree, and a way out", [][]api.Entry{escape, none}, api.ErrTree},
		{"a way out, and a clash", [][]api.Entry{clash, escape}, api.ErrEscape},
		{"too many, with a way out", [][]api.Entry{escape, many(40)}, api.ErrTree},
	} {
		for _, l := range orders(slices.Concat(c.parts...)) {
			fails(t, c.what, l, c.want)
		}
	}
}

// pool is entries of which some lists are trees and some are not, by every rule.
func pool() []api.Entry {
	var l []api.Entry
	for _, path := range []string{"a", "a/b", "a/b/c", "b"} {
		l = append(l, dirAt(path), fileAt(path, ""), fileAt(path, "0\x05"), execAt(path, "?\x99"), linkAt(path, ".."), linkAt(path, "../.."), linkAt(path, "b/.."))
	}
	return append(l, dirAt("a/"), fileAt("a/..", ""), linkAt("b", ""), api.Entry{Path: "b", Data: "x"})
}

func TestBuildOfAllListsOfThree(t *testing.T) {
	entries := pool()
	seen := map[api.Errno]int{}
	try := func(l ...api.Entry) {
		wantRoot, want, wantE := slowBuild(l)
		root, blobs, e := cellar.Build(l)
		if root != wantRoot || !slices.Equal(blobs, want) || e != wantE {
			t.Fatalf("P6: Build(%#v) = %q, %q, %d, want %q, %q, %d", l, root, blobs, e, wantRoot, want, wantE)
		}
		seen[e]++
	}
	for _, x := range entries {
		try(x)
		for _, y := range entries {
			try(x, y)
			for _, z := range entries {
				try(x, y, z)
			}
		}
	}
	for _, e := range []api.Errno{api.OK, api.ErrTree, api.ErrEscape, api.ErrClash} {
		if seen[e] < 10 {
			t.Errorf("only %d lists with %d: they try nothing", seen[e], e)
		}
	}
}
