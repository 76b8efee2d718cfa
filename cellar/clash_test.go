package cellar_test

import (
	"slices"
	"strings"
	"testing"

	"cellar/api"
	"cellar/cellar"
)

// clashes asks for what Clash must give of two trees of one root that are not the same.
func clashes(t *testing.T, a, b []api.Entry) {
	t.Helper()
	u, v, e := cellar.Clash(a, b)
	if e != api.OK || u == v || slowDigest(u) != slowDigest(v) || !slices.Contains(slowBlobs(a, ""), u) || !slices.Contains(slowBlobs(b, ""), v) {
		t.Fatalf("P7: Clash(%#v, %#v) = %q, %q, %d", a, b, u, v, e)
	}
	for range 5 {
		if again, other, e := cellar.Clash(a, b); again != u || other != v || e != api.OK {
			t.Fatalf("P7: Clash(%#v, %#v) = %q, %q, then %q, %q, %d", a, b, u, v, again, other, e)
		}
	}
}

func noClash(t *testing.T, what string, a, b []api.Entry, want api.Errno) {
	t.Helper()
	if u, v, e := cellar.Clash(a, b); u != "" || v != "" || e != want {
		t.Errorf("P1, P7: %s: Clash(%#v, %#v) = %q, %q, %d, want %d", what, a[:min(len(a), 5)], b[:min(len(b), 5)], u, v, e, want)
	}
}

func TestClashOfFiles(t *testing.T) {
	x, y := "0\x05", "?\x99"
	at := func(path string, kind int, data string) []api.Entry {
		return append(inDirs(api.Entry{Path: path, Kind: kind, Data: data}), fileAt("z", "z"), linkAt("l", "z"))
	}
	for _, path := range []string{"a", "d/a", "a/b/c/d/e"} {
		for _, kind := range []int{api.File, api.Exec} {
			for _, c := range [][2]string{{x, y}, {y, x}, {x + "more", y + "more"}} {
				a, b := at(path, kind, c[0]), at(path, kind, c[1])
				if u, v, e := cellar.Clash(a, b); u != c[0] || v != c[1] || e != api.OK {
					t.Errorf("P7: Clash at %s = %q, %q, %d, want %q", path, u, v, e, c)
				}
				for _, l := range orders(b) {
					clashes(t, a, l)
					clashes(t, l, a)
				}
			}
		}
	}
}

// letters is the i-th text of three letters.
func letters(i int) string {
	return string([]byte{byte('a' + i%26), byte('a' + i/26%26), byte('a' + i/676%26)})
}

// Of many trees of one form some have one root: those that differ in the bytes of a
// file, in a directory below or in the top itself.
func TestClashOfManyTrees(t *testing.T) {
	for what, form := range map[string]func(i int) []api.Entry{
		"a file":          func(i int) []api.Entry { return []api.Entry{fileAt("a", letters(i))} },
		"a file below":    func(i int) []api.Entry { return inDirs(execAt("a/b/c/d/e", letters(i))) },
		"files":           func(i int) []api.Entry { return []api.Entry{fileAt("a", letters(i)), fileAt("b", letters(3*i))} },
		"a link":          func(i int) []api.Entry { return []api.Entry{linkAt("l", letters(i)), fileAt("a", "x")} },
		"a link below":    func(i int) []api.Entry { return inDirs(linkAt("a/b/l", letters(i))) },
		"a name":          func(i int) []api.Entry { return []api.Entry{fileAt(letters(i), "x")} },
		"a name below":    func(i int) []api.Entry { return inDirs(fileAt("d/"+letters(i), "x")) },
		"a name above":    func(i int) []api.Entry { return inDirs(fileAt(letters(i)+"/f", "x")) },
		"a name's length": func(i int) []api.Entry { return inDirs(dirAt("d/" + letters(i)[:1+i%3])) },
		"a kind": func(i int) []api.Entry {
			return []api.Entry{{Path: letters(i), Kind: api.File + i%2, Data: "x"}, dirAt("d")}
		},
		"how many": func(i int) []api.Entry { return append(many(i%40), fileAt("a", letters(i))) },
		"lengths":  func(i int) []api.Entry { return inDirs(fileAt("d/f", strings.Repeat(letters(i), 1+i%20))) },
	} {
		first := map[string]int{}
		met := 0
		for i := 0; i < 6000 && met < 200; i++ {
			root, _, e := slowBuild(form(i))
			if e != api.OK {
				continue
			}
			j, there := first[root]
			first[root] = i
			if there && !slices.Equal(form(i), form(j)) {
				clashes(t, form(i), form(j))
				clashes(t, form(j), form(i))
				met++
			}
		}
		if met < 5 {
			t.Errorf("%s: only %d trees of one root: they try nothing", what, met)
		}
	}
}

// Where several pairs clash, the order of a map must not choose one.
func TestClashOfSeveralPairs(t *testing.T) {
	var a, b []api.Entry
	for i := range 9 {
		path := letters(i)
		a = append(a, fileAt(path, "0\x05"+path))
		b = append(b, fileAt(path, "?\x99"+path))
	}
	u, v, e := cellar.Clash(a, b)
	for range 200 {
		if again, other, e := cellar.Clash(a, b); again != u || other != v || e != api.OK {
			t.Fatalf("P7: Clash = %q, %q, then %q, %q, %d", u, v, again, other, e)
		}
	}
	if e != api.OK || u[2:] != v[2:] || u[:2] != "0\x05" || v[:2] != "?\x99" {
		t.Errorf("P7: Clash = %q, %q, %d", u, v, e)
	}
}

func TestClashOfOneTree(t *testing.T) {
	for _, tree := range trees() {
		for _, l := range orders(tree) {
			noClash(t, "one tree in two orders", tree, l, api.ErrSame)
		}
	}
}

func TestClashOfTwoRoots(t *testing.T) {
	all := trees()
	for i, a := range all {
		for _, b := range all[i+1:] {
			rootA, _, _ := slowBuild(a)
			rootB, _, _ := slowBuild(b)
			if rootA != rootB {
				noClash(t, "two roots", a, b, api.ErrSame)
			}
		}
	}
	// Blobs that clash mean nothing where the roots differ.
	x, y := fileAt("a", "0\x05"), fileAt("a", "?\x99")
	noClash(t, "a name", []api.Entry{x}, []api.Entry{fileAt("b", "?\x99")}, api.ErrSame)
	noClash(t, "a kind", []api.Entry{x}, []api.Entry{execAt("a", "?\x99")}, api.ErrSame)
	noClash(t, "an entry more", []api.Entry{x}, []api.Entry{y, dirAt("b")}, api.ErrSame)
	noClash(t, "an entry less", []api.Entry{x, linkAt("l", "a")}, []api.Entry{y}, api.ErrSame)
	noClash(t, "nothing", nil, []api.Entry{y}, api.ErrSame)
	noClash(t, "a length", []api.Entry{fileAt("a", "abcdef")}, []api.Entry{fileAt("a", twin(t, "abcdef"))}, api.ErrSame)
}

func TestOrderOfClashsErrors(t *testing.T) {
	fine := []api.Entry{fileAt("a", "x")}
	wrong := map[api.Errno][][]api.Entry{
		api.ErrTree:   {many(41), {fileAt("a/b", "x")}, {linkAt("l", ".."), {}}},
		api.ErrEscape: {{linkAt("l", "/")}, {linkAt("l", ".."), fileAt("a", "0\x05"), fileAt("b", "?\x99")}},
		api.ErrClash:  {{fileAt("a", "0\x05"), fileAt("b", "?\x99")}},
	}
	for want, lists := range wrong {
		for _, a := range lists {
			noClash(t, "the first alone", a, fine, want)
			noClash(t, "the second alone", fine, a, want)
			noClash(t, "nothing, and the second", nil, a, want)
			noClash(t, "twice the same", a, a, want)
			for _, others := range wrong {
				for _, b := range others {
					noClash(t, "the first ahead", a, b, want)
				}
			}
		}
	}
}

func TestClashOfVeryLongLists(t *testing.T) {
	long := make([]api.Entry, 1000000)
	noClash(t, "a million entries", long, nil, api.ErrTree)
	noClash(t, "a million entries, second", nil, long, api.ErrTree)
	noClash(t, "a long path", []api.Entry{dirAt(strings.Repeat("a/", 5000000))}, nil, api.ErrTree)
}
