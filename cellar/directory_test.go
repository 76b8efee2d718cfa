package cellar_test

import (
	"math"
	"slices"
	"strings"
	"testing"

	"cellar/api"
	"cellar/cellar"
)

func file(name string, size int) api.Item {
	return api.Item{Name: name, Kind: api.File, Digest: "0af", Size: size}
}

func link(name, target string) api.Item {
	return api.Item{Name: name, Kind: api.Link, Target: target}
}

// with is a file's item of which one thing is otherwise.
func with(change func(*api.Item)) []api.Item {
	item := file("f", 5)
	change(&item)
	return []api.Item{item}
}

// withLink is a link's item of which one thing is otherwise.
func withLink(change func(*api.Item)) []api.Item {
	item := link("l", "x")
	change(&item)
	return []api.Item{item}
}

// longName is the i-th of the longest names, which rise.
func longName(i int) string {
	return strings.Repeat("n", 10) + string([]byte{byte(1 + i/200), byte(50 + i%200)})
}

// full has n items of the most bytes that an item can have.
func full(n int) []api.Item {
	var l []api.Item
	for i := range n {
		l = append(l, link(longName(i), strings.Repeat("t", 30)))
	}
	return l
}

func fullBytes(n int) string {
	s := "T" + string([]byte{byte(n)})
	for i := range n {
		s += "\x03\x0c" + longName(i) + "\x1e" + strings.Repeat("t", 30)
	}
	return s
}

type pair struct {
	l     []api.Item
	bytes string
}

func directories() []pair {
	return []pair{
		{nil, "T\x00"},
		{[]api.Item{}, "T\x00"},
		{[]api.Item{file("f", 5)}, "T\x01\x01\x01f0af\x05\x00"},
		{[]api.Item{file("f", 5), link("l", "../x")}, "T\x02\x01\x01f0af\x05\x00\x03\x01l\x04../x"},
		{with(func(x *api.Item) { x.Kind = api.Dir }), "T\x01\x00\x01f0af\x05\x00"},
		{with(func(x *api.Item) { x.Kind = api.Exec }), "T\x01\x02\x01f0af\x05\x00"},
		{with(func(x *api.Item) { x.Name = "twelve-bytes" }), "T\x01\x01\x0ctwelve-bytes0af\x05\x00"},
		{with(func(x *api.Item) { x.Name = "..." }), "T\x01\x01\x03...0af\x05\x00"},
		{with(func(x *api.Item) { x.Name = "\xff\n" }), "T\x01\x01\x02\xff\n0af\x05\x00"},
		{with(func(x *api.Item) { x.Digest = "000" }), "T\x01\x01\x01f000\x05\x00"},
		{with(func(x *api.Item) { x.Digest = "fff" }), "T\x01\x01\x01ffff\x05\x00"},
		{with(func(x *api.Item) { x.Size = 0 }), "T\x01\x01\x01f0af\x00\x00"},
		{with(func(x *api.Item) { x.Size = 255 }), "T\x01\x01\x01f0af\xff\x00"},
		{with(func(x *api.Item) { x.Size = 256 }), "T\x01\x01\x01f0af\x00\x01"},
		{with(func(x *api.Item) { x.Size = 2000 }), "T\x01\x01\x01f0af\xd0\x07"},
		{withLink(func(x *api.Item) { x.Target = "/" }), "T\x01\x03\x01l\x01/"},
		{withLink(func(x *api.Item) { x.Target = strings.Repeat(".", 30) }), "T\x01\x03\x01l\x1e" + strings.Repeat(".", 30)},
		{[]api.Item{file("B", 1), file("a", 1), file("aa", 1), file("b", 1), file("\x80", 1)},
			"T\x05\x01\x01B0af\x01\x00\x01\x01a0af\x01\x00\x01\x02aa0af\x01\x00\x01\x01b0af\x01\x00\x01\x01\x800af\x01\x00"},
		{full(39), fullBytes(39)},
		{full(40), fullBytes(40)},
	}
}

// noDirectories is lists that are none, nearly all by one rule alone.
func noDirectories() map[string][]api.Item {
	m := map[string][]api.Item{
		"41 items":               full(41),
		"256 items":              full(256),
		"296 items":              full(296),
		"one name twice":         {file("f", 5), file("f", 5)},
		"names that fall":        {file("b", 5), file("a", 5)},
		"a longer name ahead":    {file("aa", 5), file("a", 5)},
		"bytes, not runes, rise": {file("\x80", 5), file("b", 5)},
		"the last falls":         {file("a", 5), file("c", 5), link("b", "x")},
		"one bad behind good":    {file("a", 5), file("c", 5), link("d", "")},
		"an empty item":          {{}},
		"a link with a size":     withLink(func(x *api.Item) { x.Size = 1 }),
		"a link with size -1":    withLink(func(x *api.Item) { x.Size = -1 }),
		"a link with a digest":   withLink(func(x *api.Item) { x.Digest = "001" }),
		"a link's odd digest":    withLink(func(x *api.Item) { x.Digest = "x" }),
		"a file as a link":       with(func(x *api.Item) { x.Kind = api.Link }),
		"a link as a file":       withLink(func(x *api.Item) { x.Kind = api.File }),
	}
	for _, s := range []string{"", ".", "..", "/", "a/b", "\x00", "a\x00", "thirteen-byte", strings.Repeat("n", 257), strings.Repeat("n", 1000000)} {
		m["the name "+s] = with(func(x *api.Item) { x.Name = s })
		m["a link's name "+s] = withLink(func(x *api.Item) { x.Name = s })
	}
	for _, s := range []string{"", "\x00", "a\x00", strings.Repeat("t", 31), strings.Repeat("t", 257), strings.Repeat("t", 1000000)} {
		m["the target "+s] = withLink(func(x *api.Item) { x.Target = s })
	}
	for _, s := range []string{"", "0", "0a", "0aff", "0aF", "0ag", "\x00\x00\x00", "é0", strings.Repeat("0", 1000000)} {
		m["the digest "+s] = with(func(x *api.Item) { x.Digest = s })
	}
	for name, kind := range map[string]int{"-1": -1, "4": 4, "256": 256, "257": 257, "the least": math.MinInt, "the most": math.MaxInt} {
		m["the kind "+name] = with(func(x *api.Item) { x.Kind = kind })
		m["a link's kind "+name] = withLink(func(x *api.Item) { x.Kind = kind })
	}
	for name, size := range map[string]int{"-1": -1, "2001": 2001, "65536": 65536, "the least": math.MinInt, "the most": math.MaxInt} {
		m["the size "+name] = with(func(x *api.Item) { x.Size = size })
	}
	for name, kind := range map[string]int{"dir": api.Dir, "file": api.File, "exec": api.Exec} {
		m["a target of a "+name] = with(func(x *api.Item) { x.Kind, x.Target = kind, "x" })
	}
	return m
}

func TestEncode(t *testing.T) {
	for _, c := range directories() {
		if got, e := cellar.Encode(c.l); got != c.bytes || e != api.OK {
			t.Errorf("P4: Encode(%#v) = %q, %d, want %q", c.l, got, e, c.bytes)
		}
	}
}

func TestEncodeNoDirectory(t *testing.T) {
	for what, l := range noDirectories() {
		if got, e := cellar.Encode(l); got != "" || e != api.ErrBytes {
			t.Errorf("P1, P4: Encode with %.40q = %q, %d", what, got, e)
		}
	}
}

func TestDecode(t *testing.T) {
	for _, c := range directories() {
		if got, e := cellar.Decode(c.bytes); !slices.Equal(got, c.l) || e != api.OK {
			t.Errorf("P5: Decode(%q) = %#v, %d, want %#v", c.bytes, got, e, c.l)
		}
	}
}

func refuse(t *testing.T, what, blob string) {
	t.Helper()
	if got, e := cellar.Decode(blob); got != nil || e != api.ErrBytes {
		t.Errorf("P1, P5: %s: Decode(%.60q) = %#v, %d", what, blob, got, e)
	}
}

func TestDecodeCutOrLengthened(t *testing.T) {
	for _, c := range directories() {
		for i := range len(c.bytes) {
			refuse(t, "cut short", c.bytes[:i])
			refuse(t, "cut ahead", c.bytes[i+1:])
		}
		for _, more := range []string{"\x00", "x", "T\x00", c.bytes, strings.Repeat("\x00", 100000)} {
			refuse(t, "bytes too many", c.bytes+more)
		}
		refuse(t, "bytes ahead", "x"+c.bytes)
	}
}

func TestDecodeCountsThatDoNotFit(t *testing.T) {
	for _, c := range directories() {
		for n := range 256 {
			if n != len(c.l) {
				refuse(t, "the count", "T"+string([]byte{byte(n)})+c.bytes[2:])
			}
		}
	}
}

func TestDecodeNoDirectory(t *testing.T) {
	for _, blob := range []string{
		"t\x00", "\x00\x00", "TT",
		"T\x01\x03\x01l\x00", "T\x01\x03\x01l\x01\x00", "T\x01\x03\x01l\x1f" + strings.Repeat("x", 31),
		"T\x01\x04\x01f0af\x05\x00", "T\x01\xff\x01f0af\x05\x00", "T\x01\x04\x01l\x01x",
		"T\x01\x01\x000af\x05\x00", "T\x01\x01\x01/0af\x05\x00", "T\x01\x01\x01\x000af\x05\x00",
		"T\x01\x01\x01.0af\x05\x00", "T\x01\x01\x02..0af\x05\x00", "T\x01\x01\x0dthirteen-byte0af\x05\x00",
		"T\x01\x01\x01f0aF\x05\x00", "T\x01\x01\x01f0ag\x05\x00", "T\x01\x01\x01f\x00af\x05\x00",
		"T\x01\x01\x01f0af\xd1\x07", "T\x01\x01\x01f0af\x00\x08", "T\x01\x01\x01f0af\x00\xff",
		"T\x02\x01\x01f0af\x05\x00\x01\x01f0af\x05\x00", "T\x02\x03\x01l\x01x\x01\x01f0af\x05\x00",
		fullBytes(41), strings.Repeat("T", 9000000), "T\x00" + strings.Repeat("\x00", 9000000),
	} {
		refuse(t, "no directory", blob)
	}
}

// Whatever Decode takes must be the very bytes that Encode makes of its answer.
func held(t *testing.T, blob string) bool {
	t.Helper()
	l, e := cellar.Decode(blob)
	if e != api.OK {
		if l != nil || e != api.ErrBytes {
			t.Errorf("P1, P5: Decode(%q) = %#v, %d", blob, l, e)
		}
		return false
	}
	if back, e := cellar.Encode(l); back != blob || e != api.OK {
		t.Errorf("P5: Decode(%q) = %#v, of which Encode makes %q, %d", blob, l, back, e)
	}
	return true
}

func TestDecodeOfChangedBytes(t *testing.T) {
	taken, refused := 0, 0
	for _, c := range directories() {
		if len(c.bytes) > 200 {
			continue
		}
		for i := range len(c.bytes) {
			for b := range 256 {
				if held(t, c.bytes[:i]+string([]byte{byte(b)})+c.bytes[i+1:]) {
					taken++
				} else {
					refused++
				}
			}
		}
	}
	if taken == 0 || refused == 0 {
		t.Errorf("%d taken, %d refused: the changes try nothing", taken, refused)
	}
}

func TestDecodeOfAllTwoBytes(t *testing.T) {
	for a := range 256 {
		for b := range 256 {
			blob := string([]byte{byte(a), byte(b)})
			if got, want := held(t, blob), blob == "T\x00"; got != want {
				t.Errorf("P5: Decode(%q) is taken: %t", blob, got)
			}
		}
	}
}

func FuzzDecode(f *testing.F) {
	for _, c := range directories() {
		f.Add(c.bytes)
	}
	f.Fuzz(func(t *testing.T, blob string) { held(t, blob) })
}
