package link

import (
	"testing"

	"cellar/api"
)

// How often a try is heard does not show in what a store answers, which is the same
// twice, so it is asked for here.
func TestSend(t *testing.T) {
	for _, c := range []struct {
		what  string
		tries int
		fates []int
		heard int // by all tries
		out   int // tries
		e     api.Errno
	}{
		{"fine", 2, []int{api.Fine, api.Lost}, 1, 1, api.OK},
		{"nothing told", 2, nil, 1, 1, api.OK},
		{"lost, then fine", 2, []int{api.Lost}, 1, 2, api.OK},
		{"silent, then fine", 2, []int{api.Silent}, 2, 2, api.OK},
		{"doubled", 2, []int{api.Doubled, api.Doubled}, 2, 1, api.OK},
		{"silent, then doubled", 2, []int{api.Silent, api.Doubled}, 3, 2, api.OK},
		{"lost, then doubled", 3, []int{api.Lost, api.Lost, api.Doubled}, 2, 3, api.OK},
		{"always lost", 3, []int{api.Lost, api.Lost, api.Lost}, 0, 3, api.ErrLink},
		{"always silent", 3, []int{api.Silent, api.Silent, api.Silent, api.Fine}, 3, 3, api.ErrLink},
	} {
		l, e := New(api.Plan{Tries: c.tries, Link: c.fates})
		if e != api.OK {
			t.Fatalf("%s: New = %d", c.what, e)
		}
		heard := 0
		answer, e := Send(l, []string{"abc", "", "d"}, func() int { heard++; return 7 })
		if heard != c.heard || e != c.e || (answer == 7) != (e == api.OK) || answer != 7 && answer != 0 {
			t.Errorf("%s: heard %d times, answered %d, %d, want %d, %d", c.what, heard, answer, e, c.heard, c.e)
		}
		if want := (api.Sent{Tries: c.out, Blobs: 3 * c.out, Bytes: 4 * c.out}); l.Sent != want {
			t.Errorf("%s: sent %v, want %v", c.what, l.Sent, want)
		}
	}
}

// The second request goes on in the fates where the first one stopped.
func TestSendAgain(t *testing.T) {
	l, _ := New(api.Plan{Tries: 2, Link: []int{api.Lost, api.Fine, api.Silent, api.Lost, api.Doubled}})
	for i, want := range []api.Errno{api.OK, api.ErrLink, api.OK, api.OK} {
		if _, e := Send(l, nil, func() bool { return true }); e != want {
			t.Errorf("request %d: %d, want %d", i, e, want)
		}
	}
	if want := (api.Sent{Tries: 6}); l.Sent != want {
		t.Errorf("sent %v, want %v", l.Sent, want)
	}
}
