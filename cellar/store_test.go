package cellar_test

import (
	"math"
	"slices"
	"strconv"
	"strings"
	"testing"

	"cellar/api"
	"cellar/cellar"
)

func newStore(t *testing.T, room int) *cellar.Store {
	t.Helper()
	s, e := cellar.New(room)
	if s == nil || e != api.OK {
		t.Fatalf("P8: New(%d) = %v, %d", room, s, e)
	}
	return s
}

// slowStore keeps what a store must keep in a list, and counts it anew each time.
type slowStore struct {
	room int
	list []standing
}

type standing struct{ digest, blob string }

func (s *slowStore) at(digest string) int {
	return slices.IndexFunc(s.list, func(x standing) bool { return x.digest == digest })
}

func (s *slowStore) put(blob string) api.Errno {
	sum := len(blob)
	for _, x := range s.list {
		sum += len(x.blob)
	}
	switch {
	case s.at(slowDigest(blob)) >= 0:
		return api.OK
	case sum > s.room:
		return api.ErrRoom
	}
	s.list = append(s.list, standing{slowDigest(blob), blob})
	return api.OK
}

func (s *slowStore) get(digest string) (string, api.Errno) {
	if i := s.at(digest); i >= 0 {
		return s.list[i].blob, api.OK
	}
	return "", api.ErrNone
}

func (s *slowStore) missing(digests []string) []string {
	var l []string
	for _, digest := range digests {
		if s.at(digest) < 0 && !slices.Contains(l, digest) {
			l = append(l, digest)
		}
	}
	return l
}

func (s *slowStore) plant(digest, blob string) {
	s.list = slices.DeleteFunc(s.list, func(x standing) bool { return x.digest == digest })
	if blob != "" {
		s.list = append(s.list, standing{digest, blob})
	}
}

func puts(t *testing.T, what string, s *cellar.Store, blob string, want api.Errno) {
	t.Helper()
	if e := s.Put(blob); e != want {
		t.Errorf("P8: %s: Put(%.20q) = %d, want %d", what, blob, e, want)
	}
}

func gets(t *testing.T, what string, s *cellar.Store, digest, blob string) {
	t.Helper()
	if got, e := s.Get(digest); got != blob || e != api.OK {
		t.Errorf("P8: %s: Get(%.20q) = %.40q, %d, want %.40q", what, digest, got, e, blob)
	}
}

func lacks(t *testing.T, what string, s *cellar.Store, digest string) {
	t.Helper()
	if got, e := s.Get(digest); got != "" || e != api.ErrNone {
		t.Errorf("P1, P8: %s: Get(%.20q) = %.40q, %d, want %d", what, digest, got, e, api.ErrNone)
	}
}

func TestNew(t *testing.T) {
	for _, room := range []int{0, 1, 2, 99999, 100000} {
		s := newStore(t, room)
		puts(t, "all the room", s, strings.Repeat("x", room), api.OK)
		puts(t, "a byte too much", s, "y", api.ErrRoom)
		other := newStore(t, room)
		puts(t, "more than the room", other, strings.Repeat("x", room+1), api.ErrRoom)
		puts(t, "all the room behind that", other, strings.Repeat("x", room), api.OK)
	}
	for _, room := range []int{-1, -2, 100001, 200000, math.MinInt, math.MinInt + 1, math.MaxInt, math.MaxInt32 + 1} {
		if s, e := cellar.New(room); s != nil || e != api.ErrArg {
			t.Errorf("P1, P8: New(%d) = %v, %d", room, s, e)
		}
	}
}

func TestNewIsEmpty(t *testing.T) {
	s := newStore(t, 100)
	for _, digest := range []string{"", "001", "5c7", "169", "zz", cellar.Digest("x")} {
		lacks(t, "an empty store", s, digest)
	}
	if l := s.Missing([]string{"001", "5c7"}); !slices.Equal(l, []string{"001", "5c7"}) {
		t.Errorf("P8: an empty store: Missing = %q", l)
	}
}

func TestPut(t *testing.T) {
	s := newStore(t, 10)
	puts(t, "the first", s, "abcd", api.OK)
	puts(t, "the second", s, "efgh", api.OK)
	puts(t, "a byte too much", s, "ijk", api.ErrRoom)
	lacks(t, "what was refused", s, cellar.Digest("ijk"))
	puts(t, "what just fills", s, "ij", api.OK)
	puts(t, "what is there already, in a full store", s, "abcd", api.OK)
	puts(t, "a byte in a full store", s, "l", api.ErrRoom)
	puts(t, "a long text in a full store", s, strings.Repeat("l", 3000000), api.ErrRoom)
	for _, blob := range []string{"abcd", "efgh", "ij"} {
		gets(t, "what was put", s, cellar.Digest(blob), blob)
	}
	lacks(t, "what was refused", s, cellar.Digest("l"))
}

// Each blob is counted once, however often it comes.
func TestPutAgainTakesNoRoom(t *testing.T) {
	s := newStore(t, 6)
	for range 5 {
		puts(t, "again", s, "abc", api.OK)
	}
	puts(t, "the rest of the room", s, "def", api.OK)
	puts(t, "no room", s, "g", api.ErrRoom)
}

func TestPutOfAnyBytes(t *testing.T) {
	s := newStore(t, 1000)
	for _, blob := range []string{"\x00", "\xff\xfe", "é", "/", "T\x00", "\n", "\x00\x00"} {
		puts(t, "any bytes", s, blob, api.OK)
		gets(t, "any bytes", s, slowDigest(blob), blob)
	}
}

// What stands under a digest stays, though it is not what is put.
func TestPutWhereSomethingElseStands(t *testing.T) {
	s := newStore(t, 2)
	puts(t, "the first", s, "0\x05", api.OK)
	puts(t, "another of its digest, in a full store", s, "?\x99", api.OK)
	gets(t, "the first", s, cellar.Digest("?\x99"), "0\x05")
	long := "0\x05" + strings.Repeat("x", 100)
	s.Plant(cellar.Digest(long), "y")
	puts(t, "where something is planted, beyond the room", s, long, api.OK)
	gets(t, "what is planted", s, cellar.Digest(long), "y")
	s.Plant("001", "not empty")
	puts(t, "the empty blob where something is planted", s, "", api.OK)
	gets(t, "what is planted", s, "001", "not empty")
}

func TestTheEmptyBlob(t *testing.T) {
	for _, room := range []int{0, 3} {
		s := newStore(t, room)
		lacks(t, "ahead of it", s, "001")
		puts(t, "up to the room", s, strings.Repeat("x", room), api.OK)
		puts(t, "the empty blob in a full store", s, "", api.OK)
		gets(t, "the empty blob", s, "001", "")
		if l := s.Missing([]string{"001"}); len(l) != 0 {
			t.Errorf("P8: Missing of the empty blob that is there = %q", l)
		}
		puts(t, "again", s, "", api.OK)
		s.Plant("001", "")
		lacks(t, "planted away", s, "001")
		s.Plant("zz", "x")
		puts(t, "the empty blob beyond the room", s, "", api.ErrRoom)
		lacks(t, "refused", s, "001")
		s.Plant("zz", "")
		puts(t, "the empty blob in a store that is just full", s, "", api.OK)
		s.Plant("zz", "x")
		puts(t, "the empty blob that is there, beyond the room", s, "", api.OK)
		gets(t, "the empty blob, beyond the room", s, "001", "")
	}
}

func TestPlant(t *testing.T) {
	s := newStore(t, 5)
	x := cellar.Digest("x")
	s.Plant(x, "x")
	gets(t, "planted", s, x, "x")
	s.Plant(x, "quite another, and longer than the room")
	gets(t, "planted over", s, x, "quite another, and longer than the room")
	puts(t, "beyond the room", s, "y", api.ErrRoom)
	puts(t, "beyond the room, the empty blob", s, "", api.ErrRoom)
	s.Plant(x, "xyz")
	gets(t, "planted over by less", s, x, "xyz")
	puts(t, "one too many", s, "abc", api.ErrRoom)
	puts(t, "what just fills", s, "ab", api.OK)
	s.Plant(x, "")
	lacks(t, "planted away", s, x)
	puts(t, "where room was made", s, "abc", api.OK)
	puts(t, "a full store", s, "d", api.ErrRoom)
	s.Plant(x, "")
	s.Plant("never there", "")
	puts(t, "where nothing was to go", s, "d", api.ErrRoom)
	s.Plant(cellar.Digest("ab"), "")
	puts(t, "where what was put has gone", s, "de", api.OK)
	gets(t, "what was put then", s, cellar.Digest("de"), "de")
}

func TestPlantUnderAnyText(t *testing.T) {
	s := newStore(t, 0)
	long := strings.Repeat("0", 1000000)
	texts := []string{"", "0", "zz", "ABC", "169", "fff", "ffff", "\x00", "\xff", "16", "1690", " 169", long, long + "0"}
	for i, digest := range texts {
		lacks(t, "ahead of it", s, digest)
		s.Plant(digest, "blob "+strconv.Itoa(i))
	}
	for i, digest := range texts {
		gets(t, "under any text", s, digest, "blob "+strconv.Itoa(i))
	}
	if l := s.Missing(texts); len(l) != 0 {
		t.Errorf("P8: Missing = %.40q", l)
	}
	for i, digest := range texts {
		s.Plant(digest, "")
		lacks(t, "planted away", s, digest)
		if l := s.Missing(texts); !slices.Equal(l, texts[:i+1]) {
			t.Errorf("P8: Missing of %d that went = %.200q", i+1, l)
		}
	}
	puts(t, "all is gone again", s, "", api.OK)
}

func TestPlantOfALongBlob(t *testing.T) {
	s := newStore(t, 100000)
	long := strings.Repeat("long", 1000000)
	s.Plant("zz", long)
	gets(t, "a long blob", s, "zz", long)
	puts(t, "behind it", s, "x", api.ErrRoom)
	s.Plant("zz", "")
	puts(t, "when it is gone", s, strings.Repeat("x", 100000), api.OK)
}

func TestMissing(t *testing.T) {
	s := newStore(t, 100)
	puts(t, "one", s, "a", api.OK)
	s.Plant("zz", "planted")
	long := strings.Repeat("x", 1000000)
	for _, c := range []struct{ asked, want []string }{
		{nil, nil},
		{[]string{}, nil},
		{[]string{"169"}, nil},
		{[]string{"169", "169", "zz"}, nil},
		{[]string{"001"}, []string{"001"}},
		{[]string{"001", "001", "001"}, []string{"001"}},
		{[]string{"fff", "169", "001", "fff", "000", "zz", "001"}, []string{"fff", "001", "000"}},
		{[]string{"", "z", "zz", "zzz", "", "z"}, []string{"", "z", "zzz"}},
		{[]string{"b", "a", "b", "169", "a", "c"}, []string{"b", "a", "c"}},
		{[]string{"\xff", "\x00", "\xff\x00", "\xff"}, []string{"\xff", "\x00", "\xff\x00"}},
		{[]string{long, "169", long, long + "x"}, []string{long, long + "x"}},
	} {
		for range 2 {
			if got := s.Missing(c.asked); !slices.Equal(got, c.want) {
				t.Errorf("P8: Missing(%.60q) = %.60q, want %.60q", c.asked, got, c.want)
			}
		}
	}
	var many []string
	for i := range 200000 {
		many = append(many, strconv.Itoa(i%100000), "169")
	}
	if got := s.Missing(many); len(got) != 100000-1 || got[0] != "0" || got[99998] != "99999" {
		t.Errorf("P8: Missing of very many gives %d", len(got))
	}
	// Asking changes nothing.
	lacks(t, "asked for", s, "001")
	gets(t, "asked for", s, "169", "a")
}

func TestTwoStores(t *testing.T) {
	a, b := newStore(t, 3), newStore(t, 3)
	puts(t, "in the first", a, "abc", api.OK)
	lacks(t, "in the second", b, cellar.Digest("abc"))
	puts(t, "in the second", b, "de", api.OK)
	lacks(t, "in the first", a, cellar.Digest("de"))
	a.Plant(cellar.Digest("de"), "planted")
	gets(t, "in the second", b, cellar.Digest("de"), "de")
	a.Plant(cellar.Digest("de"), "")
	gets(t, "in the second", b, cellar.Digest("de"), "de")
	puts(t, "in the full one", a, "f", api.ErrRoom)
	puts(t, "in the other", b, "f", api.OK)
	if l := a.Missing([]string{cellar.Digest("f")}); len(l) != 1 {
		t.Errorf("P2: Missing = %q", l)
	}
	// One that is made later is empty, and one that was refused is none.
	cellar.New(-1)
	lacks(t, "in a third", newStore(t, 3), cellar.Digest("abc"))
}

// step is something that is done to a store; it tells what came of it.
type step struct {
	what string
	fast func(*cellar.Store) any
	slow func(*slowStore) any
}

func putting(blob string) step {
	return step{"Put " + blob, func(s *cellar.Store) any { return s.Put(blob) }, func(s *slowStore) any { return s.put(blob) }}
}

func planting(digest, blob string) step {
	return step{"Plant " + digest + " " + blob,
		func(s *cellar.Store) any { s.Plant(digest, blob); return nil },
		func(s *slowStore) any { s.plant(digest, blob); return nil }}
}

func (s *slowStore) is(t *testing.T, what string, fast *cellar.Store, digests []string) {
	t.Helper()
	if got, want := fast.Missing(digests), s.missing(digests); !slices.Equal(got, want) {
		t.Fatalf("P8: behind %s: Missing(%q) = %q, want %q", what, digests, got, want)
	}
	for _, digest := range digests {
		blob, e := fast.Get(digest)
		if want, wantE := s.get(digest); blob != want || e != wantE {
			t.Fatalf("P8: behind %s: Get(%q) = %q, %d, want %q, %d", what, digest, blob, e, want, wantE)
		}
	}
}

func TestAllThatFourStepsDo(t *testing.T) {
	x := cellar.Digest("0\x05")
	steps := []step{
		putting(""), putting("a"), putting("bc"), putting("0\x05"), putting("?\x99"),
		planting("001", "xy"), planting("001", ""), planting(x, "x"), planting(x, ""), planting("zz", "xyz"), planting("zz", ""),
	}
	digests := []string{"zz", x, "001", cellar.Digest("bc"), x, "", cellar.Digest("a"), "zz"}
	for room := range 5 {
		for n := range len(steps) * len(steps) * len(steps) * len(steps) {
			fast, slow := newStore(t, room), &slowStore{room: room}
			what := "a room of " + strconv.Itoa(room)
			for range 4 {
				do := steps[n%len(steps)]
				n /= len(steps)
				what += ", " + do.what
				if got, want := do.fast(fast), do.slow(slow); got != want {
					t.Fatalf("P8: %q = %v, want %v", what, got, want)
				}
			}
			slow.is(t, what, fast, digests)
		}
	}
}

// Behind very many steps, drawn from a short rule, the bytes are still counted right.
func TestManySteps(t *testing.T) {
	fast, slow := newStore(t, 300), &slowStore{room: 300}
	var digests []string
	for i := range 40 {
		digests = append(digests, slowDigest(strings.Repeat(letters(i), i%9)))
	}
	refused := 0
	for n, i := 1, 0; i < 20000; i++ {
		n = n * 16807 % 2147483647
		blob := strings.Repeat(letters(n/7%40), n/7%40%9)
		do := putting(blob)
		switch n % 5 {
		case 0:
			do = planting(digests[n/300%40], blob)
		case 1:
			do = planting(digests[n/300%40], "")
		}
		got, want := do.fast(fast), do.slow(slow)
		if got != want {
			t.Fatalf("P8: step %d, %q = %v, want %v", i, do.what, got, want)
		}
		if got == api.ErrRoom {
			refused++
		}
		slow.is(t, do.what, fast, digests)
	}
	if refused < 100 || refused > 15000 {
		t.Errorf("%d refused: the steps try nothing", refused)
	}
}
