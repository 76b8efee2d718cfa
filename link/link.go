// Package link carries requests, some of which it loses, or their answers.
package link

import (
	"slices"

	"cellar/api"
	"cellar/bounds"
)

// Link tells what becomes of the tries of all requests, and counts what went out.
type Link struct {
	Sent  api.Sent
	tries int   // that each request has
	fates []int // of all tries, one behind the other
}

// New makes a link of a plan.
func New(p api.Plan) (*Link, api.Errno) {
	if !bounds.Within(p.Tries, 1, api.MaxTries) || slices.ContainsFunc(p.Link, isNoFate) {
		return nil, api.ErrArg
	}
	return &Link{tries: p.Tries, fates: p.Link}, api.OK
}

// Send tries a request, which brings these blobs, until it is answered. Each time
// that it is heard at the other end, hear is called there, and gives the answer.
func Send[A any](l *Link, blobs []string, hear func() A) (A, api.Errno) {
	var answer, none A
	for range l.tries {
		fate := l.next()
		l.count(blobs)
		for range heard(fate) {
			answer = hear()
		}
		if answered(fate) {
			return answer, api.OK
		}
	}
	return none, api.ErrLink
}

// next is the fate of the try that comes now: as many as went out are behind it.
func (l *Link) next() int {
	if l.Sent.Tries < len(l.fates) {
		return l.fates[l.Sent.Tries]
	}
	return api.Fine
}

func (l *Link) count(blobs []string) {
	l.Sent.Tries++
	l.Sent.Blobs += len(blobs)
	for _, bytes := range blobs {
		l.Sent.Bytes += len(bytes)
	}
}

func isNoFate(n int) bool { return !bounds.Within(n, api.Fine, api.Doubled) }

// heard is how often the other end hears a try of this fate.
func heard(fate int) int {
	switch fate {
	case api.Lost:
		return 0
	case api.Doubled:
		return 2
	}
	return 1
}

func answered(fate int) bool { return fate != api.Lost && fate != api.Silent }
