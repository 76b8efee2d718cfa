package cellar_test

import (
	"fmt"
	"math"
	"slices"
	"strings"
	"testing"

	"cellar/api"
	"cellar/cellar"
)

// upload is what Upload must answer and leave in the store, reckoned the long way.
func (s *slowStore) upload(tree []api.Entry, p api.Plan) (string, api.Sent, api.Errno) {
	root, blobs, e := slowBuild(tree)
	if e != api.OK {
		return "", api.Sent{}, e
	}
	if p.Tries < 1 || p.Tries > 9 || p.Batch < 1 || p.Batch > 5000 || slices.ContainsFunc(p.Link, func(n int) bool { return n < 0 || n > 3 }) {
		return "", api.Sent{}, api.ErrArg
	}
	blobs = slices.DeleteFunc(blobs, func(blob string) bool { return s.at(slowDigest(blob)) >= 0 })
	var sent api.Sent
	for _, request := range append([][]string{nil}, slowBatches(blobs, p.Batch)...) {
		var fates []int
		for range p.Tries {
			fates = append(fates, append(slices.Clone(p.Link), make([]int, 999)...)[sent.Tries])
			sent.Tries++
			sent.Blobs += len(request)
			sent.Bytes += len(strings.Join(request, ""))
			if i := len(fates) - 1; fates[i] == api.Fine || fates[i] == api.Doubled {
				break
			}
		}
		for _, fate := range fates {
			answer := api.OK
			for range []int{1, 0, 1, 2}[fate] {
				answer = s.putUpTo(request)
			}
			if answer != api.OK && fate != api.Silent {
				return "", sent, answer
			}
		}
		if last := fates[len(fates)-1]; last == api.Lost || last == api.Silent {
			return "", sent, api.ErrLink
		}
	}
	return root, sent, api.OK
}

func (s *slowStore) putUpTo(blobs []string) api.Errno {
	for _, blob := range blobs {
		if e := s.put(blob); e != api.OK {
			return e
		}
	}
	return api.OK
}

// slowBatches takes the longest beginning that a batch may have, again and again.
func slowBatches(blobs []string, most int) [][]string {
	for n := len(blobs); n > 0; n-- {
		if n == 1 || len(strings.Join(blobs[:n], "")) <= most {
			return append([][]string{blobs[:n]}, slowBatches(blobs[n:], most)...)
		}
	}
	return nil
}

// uploads holds an Upload into a store against the slow one.
func uploads(t *testing.T, fast *cellar.Store, slow *slowStore, tree []api.Entry, p api.Plan) api.Errno {
	t.Helper()
	wantRoot, wantSent, want := slow.upload(tree, p)
	root, sent, e := fast.Upload(tree, p)
	if root != wantRoot || sent != wantSent || e != want {
		t.Fatalf("P9: in a room of %d: Upload(%#v, %#v) = %q, %v, %d, want %q, %v, %d", slow.room, tree, p, root, sent, e, wantRoot, wantSent, want)
	}
	_, blobs, _ := slowBuild(tree)
	digests := []string{"zz"}
	for _, blob := range blobs {
		digests = append(digests, slowDigest(blob))
	}
	slow.is(t, fmt.Sprintf("Upload(%#v, %#v)", tree, p), fast, digests)
	return e
}

func sum(blobs []string) int { return len(strings.Join(blobs, "")) }

func plan(tries, batch int, link ...int) api.Plan {
	return api.Plan{Tries: tries, Batch: batch, Link: link}
}

// sends asks for one answer of Upload, and which blobs stand in the store then.
func sends(t *testing.T, what string, s *cellar.Store, tree []api.Entry, p api.Plan, sent api.Sent, e api.Errno, there ...string) {
	t.Helper()
	root, blobs, _ := slowBuild(tree)
	if e != api.OK {
		root = ""
	}
	if gotRoot, got, gotE := s.Upload(tree, p); gotRoot != root || got != sent || gotE != e {
		t.Errorf("P1, P9: %s: Upload = %q, %v, %d, want %q, %v, %d", what, gotRoot, got, gotE, root, sent, e)
	}
	for _, blob := range blobs {
		if got, e := s.Get(slowDigest(blob)); (e == api.OK) != slices.Contains(there, blob) || e == api.OK && got != blob {
			t.Errorf("P9: behind %s: Get of %q = %q, %d", what, blob, got, e)
		}
	}
}

func TestUploadOfTheExample(t *testing.T) {
	tree := []api.Entry{fileAt("a", "x")}
	top := "T\x01\x01\x01a180\x01\x00"
	s := newStore(t, 100)
	sends(t, "two tries", s, tree, plan(2, 5000, 1, 2), api.Sent{Tries: 2}, api.ErrLink)
	sends(t, "three tries", s, tree, plan(3, 5000, 1, 2), api.Sent{Tries: 4, Blobs: 2, Bytes: 1 + len(top)}, api.OK, "x", top)
	sends(t, "again", s, tree, plan(3, 5000, 1, 2), api.Sent{Tries: 3}, api.OK, "x", top)
}

// sample is a tree of five blobs of 0, 2, 5, 10 and more bytes.
func sample() []api.Entry {
	return []api.Entry{dirAt("d"), execAt("d/f", "12345"), linkAt("l", "d/f"), fileAt("a", "67"), fileAt("e", "")}
}

// sampleBlobs is its blobs by rising digests.
func sampleBlobs(t *testing.T) []string {
	t.Helper()
	_, blobs, e := slowBuild(sample())
	if e != api.OK || len(blobs) != 5 || blobs[0] != "" {
		t.Fatalf("no tree to test by: %q, %d", blobs, e)
	}
	return blobs
}

func TestUploadInBatches(t *testing.T) {
	blobs := sampleBlobs(t)
	all := sum(blobs)
	for most := 1; most <= all+1; most++ {
		s := newStore(t, all)
		sends(t, fmt.Sprint("batches of ", most), s, sample(), plan(1, most), api.Sent{Tries: 1 + len(slowBatches(blobs, most)), Blobs: 5, Bytes: all}, api.OK, blobs...)
		sends(t, "the same again", s, sample(), plan(1, most), api.Sent{Tries: 1}, api.OK, blobs...)
	}
	for most, n := range map[int]int{1: 5, all - 1: 2, all: 1, 5000: 1} {
		s := newStore(t, all)
		sends(t, fmt.Sprint(n, " batches"), s, sample(), plan(9, most), api.Sent{Tries: 1 + n, Blobs: 5, Bytes: all}, api.OK, blobs...)
	}
}

// The empty blob has a place in a batch that is just full, and none behind a blob
// that is larger than a batch.
func TestTheEmptyBlobInABatch(t *testing.T) {
	first := ""
	for i := 0; slowDigest(first) != "000"; i++ {
		first = letters(i)
	}
	tree := []api.Entry{fileAt("a", first), fileAt("b", "")}
	_, blobs, e := slowBuild(tree)
	if e != api.OK || len(blobs) != 3 || blobs[0] != first || blobs[1] != "" {
		t.Fatalf("no tree to test by: %q, %d", blobs, e)
	}
	all := sum(blobs)
	sends(t, "just full", newStore(t, all), tree, plan(1, 3), api.Sent{Tries: 3, Blobs: 3, Bytes: all}, api.OK, blobs...)
	sends(t, "over full", newStore(t, all), tree, plan(1, 2), api.Sent{Tries: 4, Blobs: 3, Bytes: all}, api.OK, blobs...)
	sends(t, "the empty one lost", newStore(t, all), tree, plan(1, 2, 0, 0, 1), api.Sent{Tries: 3, Blobs: 2, Bytes: 3}, api.ErrLink, first)
}

func TestUploadOfLargeBlobs(t *testing.T) {
	tree := below("d", many(39)) // of 39 links, which make one blob of 1,757 bytes
	_, blobs, _ := slowBuild(tree)
	all := sum(blobs)
	for _, most := range []int{1, 11, 1756, 1757, all - 1} {
		sends(t, fmt.Sprint("batches of ", most), newStore(t, all), tree, plan(1, most), api.Sent{Tries: 3, Blobs: 2, Bytes: all}, api.OK, blobs...)
	}
	sends(t, "one batch", newStore(t, all), tree, plan(1, all), api.Sent{Tries: 2, Blobs: 2, Bytes: all}, api.OK, blobs...)
	var files []api.Entry
	for i := range 40 {
		files = append(files, fileAt(letters(i), strings.Repeat(letters(3*i), 20)))
	}
	_, blobs, e := slowBuild(files)
	if e != api.OK || len(blobs) != 41 {
		t.Fatalf("no tree to test by: %d blobs, %d", len(blobs), e)
	}
	sends(t, "forty files", newStore(t, 100000), files, plan(1, 5000), api.Sent{Tries: 2, Blobs: 41, Bytes: sum(blobs)}, api.OK, blobs...)
	sends(t, "forty files, one by one", newStore(t, 100000), files, plan(1, 59), api.Sent{Tries: 42, Blobs: 41, Bytes: sum(blobs)}, api.OK, blobs...)
}

func TestWhatBecomesOfTheFirstRequest(t *testing.T) {
	blobs := sampleBlobs(t)
	all := sum(blobs)
	for _, c := range []struct {
		what  string
		p     api.Plan
		tries int // of the question
		e     api.Errno
	}{
		{"fine", plan(1, 5000, 0), 1, api.OK}, {"lost", plan(1, 5000, 1), 1, api.ErrLink}, {"silent", plan(1, 5000, 2), 1, api.ErrLink}, {"doubled", plan(1, 5000, 3), 1, api.OK},
		{"lost, fine", plan(2, 5000, 1, 0), 2, api.OK}, {"silent, fine", plan(2, 5000, 2, 0), 2, api.OK}, {"lost, doubled", plan(2, 5000, 1, 3), 2, api.OK}, {"silent, no more is told", plan(2, 5000, 2), 2, api.OK},
		{"lost twice", plan(2, 5000, 1, 1), 2, api.ErrLink}, {"lost, silent, fine too late", plan(2, 5000, 1, 2, 0), 2, api.ErrLink},
		{"eight times", plan(9, 5000, 1, 2, 1, 2, 1, 2, 1, 2), 9, api.OK}, {"nine times", plan(9, 5000, 1, 2, 1, 2, 1, 2, 1, 2, 1), 9, api.ErrLink},
		{"nine times, the last one silent", plan(9, 5000, 1, 1, 1, 1, 1, 1, 1, 1, 2, 0, 0), 9, api.ErrLink},
	} {
		sent, there := api.Sent{Tries: c.tries}, []string(nil)
		if c.e == api.OK {
			sent, there = api.Sent{Tries: c.tries + 1, Blobs: 5, Bytes: all}, blobs
		}
		sends(t, "the first request "+c.what, newStore(t, all), sample(), c.p, sent, c.e, there...)
	}
}

func TestWhatBecomesOfABatch(t *testing.T) {
	blobs := sampleBlobs(t)
	all := sum(blobs)
	for _, c := range []struct {
		what  string
		p     api.Plan
		tries int  // of the batch
		there bool // whether the blobs are, then
		e     api.Errno
	}{
		{"fine", plan(1, 5000, 0, 0), 1, true, api.OK}, {"lost", plan(1, 5000, 0, 1), 1, false, api.ErrLink}, {"silent", plan(1, 5000, 0, 2), 1, true, api.ErrLink}, {"doubled", plan(1, 5000, 0, 3), 1, true, api.OK},
		{"lost, fine", plan(2, 5000, 0, 1, 0), 2, true, api.OK}, {"silent, fine", plan(2, 5000, 0, 2, 0), 2, true, api.OK}, {"silent, lost", plan(2, 5000, 0, 2, 1), 2, true, api.ErrLink}, {"lost twice", plan(2, 5000, 0, 1, 1), 2, false, api.ErrLink},
		{"lost, no more is told", plan(2, 5000, 0, 1), 2, true, api.OK}, {"lost twice, fine too late", plan(2, 5000, 0, 1, 1, 0), 2, false, api.ErrLink},
		{"eight times", plan(9, 5000, 3, 1, 1, 1, 1, 1, 1, 1, 1), 9, true, api.OK}, {"nine times", plan(9, 5000, 3, 1, 1, 1, 1, 1, 1, 1, 1, 1), 9, false, api.ErrLink},
	} {
		var there []string
		if c.there {
			there = blobs
		}
		sends(t, "a batch "+c.what, newStore(t, all), sample(), c.p, api.Sent{Tries: 1 + c.tries, Blobs: 5 * c.tries, Bytes: all * c.tries}, c.e, there...)
	}
	// Each request has all its tries, and its blobs alone are counted with them.
	sends(t, "the second batch lost", newStore(t, all), sample(), plan(2, 1, 2, 0, 1, 0, 2, 1), api.Sent{Tries: 6, Blobs: 4, Bytes: 2 * sum(blobs[:2])}, api.ErrLink, blobs[:2]...)
}

func TestUploadWithoutRoom(t *testing.T) {
	blobs := sampleBlobs(t)
	all := sum(blobs)
	for n := 1; n < 5; n++ {
		// A byte too little for the next one: it ends the batch, though smaller ones behind
		// it would have room.
		room := sum(blobs[:n+1]) - 1
		there := blobs[:n]
		sends(t, "one batch", newStore(t, room), sample(), plan(1, 5000), api.Sent{Tries: 2, Blobs: 5, Bytes: all}, api.ErrRoom, there...)
		sends(t, "doubled", newStore(t, room), sample(), plan(1, 5000, 0, 3), api.Sent{Tries: 2, Blobs: 5, Bytes: all}, api.ErrRoom, there...)
		sends(t, "not heard, then heard", newStore(t, room), sample(), plan(2, 5000, 0, 2), api.Sent{Tries: 3, Blobs: 10, Bytes: 2 * all}, api.ErrRoom, there...)
		sends(t, "lost, then heard", newStore(t, room), sample(), plan(9, 5000, 0, 1, 1, 0), api.Sent{Tries: 4, Blobs: 15, Bytes: 3 * all}, api.ErrRoom, there...)
		sends(t, "never heard", newStore(t, room), sample(), plan(2, 5000, 0, 2, 2), api.Sent{Tries: 3, Blobs: 10, Bytes: 2 * all}, api.ErrLink, there...)
		sends(t, "heard at the first try, though there are more", newStore(t, room), sample(), plan(9, 5000), api.Sent{Tries: 2, Blobs: 5, Bytes: all}, api.ErrRoom, there...)
	}
	// In a later batch: what went ahead of it stays.
	sends(t, "a later batch", newStore(t, sum(blobs[:3])), sample(), plan(1, 1), api.Sent{Tries: 5, Blobs: 4, Bytes: sum(blobs[:4])}, api.ErrRoom, blobs[:3]...)
	sends(t, "no room but for nothing", newStore(t, 0), sample(), plan(1, 1), api.Sent{Tries: 3, Blobs: 2, Bytes: sum(blobs[:2])}, api.ErrRoom, blobs[0])
	// Beyond its room a store has none for the empty blob either, which is the first here.
	s := newStore(t, 3)
	s.Plant("zz", "four")
	sends(t, "no room for nothing", s, sample(), plan(1, 5000), api.Sent{Tries: 2, Blobs: 5, Bytes: all}, api.ErrRoom)
}

// Only what is missing is sent; what stands under a digest counts, whatever it is.
func TestUploadOfWhatIsMissing(t *testing.T) {
	blobs := sampleBlobs(t)
	all := sum(blobs)
	for n := range 1 << len(blobs) {
		s := newStore(t, all)
		var have []string
		for i, blob := range blobs {
			if n>>i&1 == 1 {
				have = append(have, blob)
				s.Put(blob)
			}
		}
		sent := api.Sent{Tries: 2, Blobs: 5 - len(have), Bytes: all - sum(have)}
		if len(have) == 5 {
			sent.Tries = 1
		}
		sends(t, fmt.Sprintf("with %q there", have), s, sample(), plan(1, 5000), sent, api.OK, blobs...)
	}
	s := newStore(t, all)
	spoilt := slowDigest(blobs[3])
	s.Plant(spoilt, "spoilt")
	if _, sent, e := s.Upload(sample(), plan(1, 5000)); e != api.OK || sent != (api.Sent{Tries: 2, Blobs: 4, Bytes: all - len(blobs[3])}) {
		t.Errorf("P9: where something else stands: Upload = %v, %d", sent, e)
	}
	gets(t, "where something else stands", s, spoilt, "spoilt")
}

// Of an Upload that failed, the next one sends what is still missing.
func TestUploadAfterOneThatFailed(t *testing.T) {
	blobs := sampleBlobs(t)
	s := newStore(t, sum(blobs))
	sends(t, "a batch lost", s, sample(), plan(1, 1, 0, 0, 0, 1), api.Sent{Tries: 4, Blobs: 3, Bytes: sum(blobs[:3])}, api.ErrLink, blobs[:2]...)
	sends(t, "the rest, silent", s, sample(), plan(1, 5000, 0, 2), api.Sent{Tries: 2, Blobs: 3, Bytes: sum(blobs[2:])}, api.ErrLink, blobs...)
	sends(t, "nothing is left", s, sample(), plan(1, 5000, 0, 1), api.Sent{Tries: 1}, api.OK, blobs...)
}

func TestUploadsErrors(t *testing.T) {
	fine := []api.Entry{fileAt("a", "x")}
	wrong := map[api.Errno][]api.Entry{
		api.OK:        fine,
		api.ErrTree:   {fileAt("a/b", "x")},
		api.ErrEscape: {linkAt("l", "..")},
		api.ErrClash:  {fileAt("a", "0\x05"), fileAt("b", "?\x99")},
	}
	var plans []api.Plan
	for _, n := range []int{0, -1, 10, 11, 257, math.MinInt, math.MaxInt} {
		plans = append(plans, plan(n, 5000), plan(n, 1, 1, 2))
	}
	for _, n := range []int{0, -1, 5001, 5002, 65537, math.MinInt, math.MaxInt} {
		plans = append(plans, plan(1, n), plan(9, n, 3))
	}
	for _, n := range []int{-1, 4, 5, 256, math.MinInt, math.MaxInt} {
		plans = append(plans, plan(1, 1, n), plan(9, 5000, 0, 0, n, 0), plan(1, 5000, 0, 0, 0, 0, 0, n), plan(1, 1, append(make([]int, 100000), n)...))
	}
	plans = append(plans, api.Plan{}, plan(0, 0, 4), plan(10, 5001, -1))
	for want, tree := range wrong {
		s := newStore(t, 1000)
		if want == api.OK {
			want = api.ErrArg
		} else if root, sent, e := s.Upload(tree, plan(1, 5000)); root != "" || sent != (api.Sent{}) || e != want {
			t.Errorf("P9: Upload of what Build refuses = %q, %v, %d, want %d", root, sent, e, want)
		}
		for _, p := range plans {
			if root, sent, e := s.Upload(tree, p); root != "" || sent != (api.Sent{}) || e != want {
				t.Errorf("P1, P9: Upload(%#v, %d, %d, %v) = %q, %v, %d, want %d", tree, p.Tries, p.Batch, p.Link[:min(len(p.Link), 9)], root, sent, e, want)
			}
		}
		for _, blob := range []string{"x", "T\x01\x01\x01a180\x01\x00", "0\x05", "T\x00"} {
			lacks(t, "an Upload that sent nothing", s, slowDigest(blob))
		}
	}
}

func TestUploadAtTheBounds(t *testing.T) {
	for _, tries := range []int{1, 2, 8, 9} {
		for _, batch := range []int{1, 2, 4999, 5000} {
			for _, link := range [][]int{nil, {}, {0}, {3}, {0, 0, 0, 0, 0, 0, 0, 3, 3, 3}, make([]int, 100000)} {
				for _, tree := range trees() {
					slow := &slowStore{room: 100000}
					if e := uploads(t, newStore(t, 100000), slow, tree, plan(tries, batch, link[:min(len(link), 500)]...)); e != api.OK {
						t.Errorf("P9: Upload with %d, %d, %v = %d", tries, batch, link[:min(len(link), 12)], e)
					}
				}
			}
		}
	}
	long := append(make([]int, 1000000), 1, 2, 3)
	if _, sent, e := newStore(t, 100).Upload(nil, plan(1, 1, long...)); e != api.OK || sent != (api.Sent{Tries: 2, Blobs: 1, Bytes: 2}) {
		t.Errorf("P9: Upload over a long link = %v, %d", sent, e)
	}
	long[0], long[1] = 2, 1
	if _, sent, e := newStore(t, 100).Upload(nil, plan(1, 1, long...)); e != api.ErrLink || sent != (api.Sent{Tries: 1}) {
		t.Errorf("P9: Upload over a long link that loses things = %v, %d", sent, e)
	}
}

// fates is all lists of fates that have this length.
func fates(length int) [][]int {
	if length == 0 {
		return [][]int{nil}
	}
	var all [][]int
	for _, l := range fates(length - 1) {
		for fate := range 4 {
			all = append(all, append(slices.Clone(l), fate))
		}
	}
	return all
}

func TestAllThatALinkDoes(t *testing.T) {
	tree := []api.Entry{fileAt("a", "x"), fileAt("b", ""), dirAt("d")}
	_, blobs, _ := slowBuild(tree)
	all := sum(blobs)
	seen := map[api.Errno]int{}
	for length := range 6 {
		for _, link := range fates(length) {
			for tries := 1; tries <= 3; tries++ {
				for _, most := range []int{1, all - 1, all} {
					for _, room := range []int{0, all - 1, all} {
						seen[uploads(t, newStore(t, room), &slowStore{room: room}, tree, plan(tries, most, link...))]++
					}
				}
			}
		}
	}
	for _, e := range []api.Errno{api.OK, api.ErrRoom, api.ErrLink} {
		if seen[e] < 1000 {
			t.Errorf("only %d with %d: they try nothing", seen[e], e)
		}
	}
}

// One store, into which many trees come by many plans, as room is made and taken.
func TestManyUploads(t *testing.T) {
	all := trees()
	fast, slow := newStore(t, 3000), &slowStore{room: 3000}
	seen := map[api.Errno]int{}
	for n, i := 1, 0; i < 2000; i++ {
		n = n * 16807 % 2147483647
		var link []int
		for k := range n / 11 % 7 {
			link = append(link, n>>(2*k+3)%4)
		}
		tree := all[n/5%len(all)]
		seen[uploads(t, fast, slow, tree, plan(1+n/13%9, 1+n%100*n/17%5000, link...))]++
		if i%3 == 0 && len(slow.list) > 0 {
			digest := slow.list[n/19%len(slow.list)].digest
			blob := strings.Repeat("p", n%3*n/23%500)
			fast.Plant(digest, blob)
			slow.plant(digest, blob)
		}
	}
	for _, e := range []api.Errno{api.OK, api.ErrRoom, api.ErrLink} {
		if seen[e] < 50 {
			t.Errorf("only %d with %d: they try nothing", seen[e], e)
		}
	}
}
