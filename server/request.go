package server

import (
	"cartouche/api"
	"cartouche/event"
	"cartouche/lump"
)

// The kinds of requests: one puts an event behind the open history, one seals that, one judges a sealed one, one fetches a certificate, one asks for the head of all.
const (
	putting  = 'e'
	sealing  = 's'
	judging  = 'j'
	fetching = 'f'
	heading  = 'h'
)

// request is what is asked for: the event of one that puts, the number of one that judges or fetches, the level of one that judges.
type request struct {
	kind          byte
	event         api.Event
	number, level int
}

// take takes a request that stands behind its pass; false, if it is none.
func take(s string) (request, bool) {
	if s == "" {
		return request{}, false
	}
	q, rest, numbers := request{kind: s[0]}, s[1:], 0
	switch q.kind {
	case putting:
		x, e := event.Take(rest)
		q.event = x
		return q, e == api.OK
	case judging:
		numbers++ // the level, behind the number that one that fetches has too
		fallthrough
	case fetching:
		numbers++
		fallthrough
	case sealing, heading:
		return q.numbered(rest, numbers)
	}
	return request{}, false
}

// numbered is a request with so many numbers, which are all that stands behind its kind; false, if they aren't.
func (q request) numbered(s string, many int) (request, bool) {
	for _, to := range []*int{&q.number, &q.level}[:many] {
		n, rest, e := lump.TakeNum(s)
		if e != api.OK || n > api.MaxSeq {
			return request{}, false
		}
		*to, s = int(n), rest
	}
	return q, s == ""
}
