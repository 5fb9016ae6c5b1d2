package store

import (
	"slices"

	"cartouche/api"
)

// What follows is the document's words again, with nothing of the package or of those below it.

func begin(txn int) api.Event  { return api.Event{Kind: api.EBegin, Txn: txn} }
func commit(txn int) api.Event { return api.Event{Kind: api.ECommit, Txn: txn} }
func abort(txn int) api.Event  { return api.Event{Kind: api.EAbort, Txn: txn} }

func read(txn int, key, val string) api.Event {
	return api.Event{Kind: api.ERead, Txn: txn, Key: key, Val: val}
}

func write(txn int, key, val string) api.Event {
	return api.Event{Kind: api.EWrite, Txn: txn, Key: key, Val: val}
}

func filler(n int) string {
	b := make([]byte, n)
	for i := range b {
		b[i] = byte(i*7 + n)
	}
	return string(b)
}

// plainText are a text's bytes.
func plainText(s string) string {
	if len(s) <= 250 {
		return string([]byte{byte(len(s))}) + s
	}
	return string([]byte{251, byte(len(s) / 256), byte(len(s) % 256)}) + s
}

// plainTexts are those of several texts.
func plainTexts(l ...string) string {
	s := ""
	for _, x := range l {
		s += plainText(x)
	}
	return s
}

// plainMay: may an event be?
func plainMay(x api.Event) bool {
	if x.Txn < 1 || x.Txn > 32 {
		return false
	}
	switch x.Kind {
	case 1, 4, 5:
		return x.Key == "" && x.Val == ""
	case 2:
		return x.Key != "" && len(x.Key) <= 32 && len(x.Val) <= 32
	case 3:
		return x.Key != "" && len(x.Key) <= 32 && x.Val != "" && len(x.Val) <= 32
	}
	return false
}

// plainEvent are an event's bytes.
func plainEvent(x api.Event) string {
	s := string([]byte{byte(x.Kind), byte(x.Txn)})
	if x.Kind == 2 || x.Kind == 3 {
		s += plainText(x.Key) + plainText(x.Val)
	}
	return s
}

// deed is something that is done to a store: an event is put, or the open history is sealed, or a body is noted.
type deed struct {
	what byte
	x    api.Event
	body string
}

func put(x api.Event) deed  { return deed{what: 'e', x: x} }
func seal() deed            { return deed{what: 's'} }
func note(body string) deed { return deed{what: 'c', body: body} }

// record is what a deed writes.
func (d deed) record() string {
	switch d.what {
	case 'e':
		return "e" + plainEvent(d.x)
	case 's':
		return "s"
	}
	return "c" + d.body
}

// refused is what is told of a deed that may not be done to what there is, whatever its tape is.
func (d deed) refused(s api.Store) api.Errno {
	switch {
	case d.what == 'e' && !plainMay(d.x):
		return api.ErrArg
	case d.what == 'e' && len(s.Open) >= 64:
		return api.ErrFull
	case d.what == 's' && len(s.Open) == 0:
		return api.ErrNone
	case d.what == 's' && len(s.Hists) >= 8:
		return api.ErrFull
	case d.what == 'c' && len(s.Certs) >= 16:
		return api.ErrFull
	}
	return api.OK
}

// has is what a row of deeds makes, without a tape.
func has(l []deed) api.Store {
	var s api.Store
	for _, d := range l {
		switch d.what {
		case 'e':
			s.Open = append(s.Open, d.x)
		case 's':
			s.Hists = append(s.Hists, s.Open)
			s.Open = nil
		default:
			s.Certs = append(s.Certs, d.body)
		}
	}
	return s
}

// tapeOf are the bytes of the records of a row of deeds.
func tapeOf(l []deed) string {
	s := ""
	for _, d := range l {
		s += plainText(d.record())
	}
	return s
}

// plainDo does a deed to a store: what comes of it, and what is told.
func plainDo(s api.Store, d deed) (api.Store, api.Errno) {
	if e := d.refused(s); e != api.OK {
		return s, e
	}
	rec := d.record()
	b := plainText(rec)
	switch {
	case s.T.Off:
		return s, api.ErrDead
	case len(rec) > 65535:
		return s, api.ErrBig
	case s.T.Room < len(b):
		return s, api.ErrFull
	case s.T.Fuse >= 0 && s.T.Fuse < len(b):
		s.T.Wait += b[:s.T.Fuse]
		s.T.Room -= s.T.Fuse
		s.T.Fuse, s.T.Off = 0, true
		return s, api.ErrDead
	}
	s.T.Wait += b
	s.T.Room -= len(b)
	if s.T.Fuse >= 0 {
		s.T.Fuse -= len(b)
	}
	if d.what != 'e' {
		s.T.Safe, s.T.Wait = s.T.Safe+s.T.Wait, ""
	}
	made := has([]deed{d})
	switch d.what {
	case 'e':
		s.Open = slices.Concat(s.Open, made.Open)
	case 's':
		s.Hists, s.Open = slices.Concat(s.Hists, [][]api.Event{s.Open}), nil
	default:
		s.Certs = slices.Concat(s.Certs, made.Certs)
	}
	return s, api.OK
}

// plainHas: have two the same, whatever their tapes are?
func plainHas(a, b api.Store) bool {
	return slices.Equal(a.Open, b.Open) && slices.EqualFunc(a.Hists, b.Hists, slices.Equal[[]api.Event]) && slices.Equal(a.Certs, b.Certs)
}

// plainSame: the same, field by field?
func plainSame(a, b api.Store) bool {
	return a.T.Safe == b.T.Safe && a.T.Wait == b.T.Wait && a.T.Room == b.T.Room && a.T.Fuse == b.T.Fuse && a.T.Off == b.T.Off &&
		plainHas(a, b)
}
