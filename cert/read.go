package cert

import (
	"cartouche/api"
	"cartouche/event"
	"cartouche/lump"
)

// reader takes off what its text begins with; where that is not what is asked for, it panics.
// Calls inside a literal are made in the order in which they stand there: so its fields stand in the order of the bytes.
type reader struct{ rest string }

func (r *reader) cert() api.Cert {
	return api.Cert{
		Tenant: r.text(api.MaxName),
		Seq:    r.num(api.MaxSeq),
		Prev:   r.text(api.Digest),
		Root:   r.text(api.Digest),
		Count:  r.num(api.MaxEvents),
		V:      r.verdict(),
		Proofs: list(r, api.MaxProofs, r.proof),
	}
}

func (r *reader) verdict() api.Verdict {
	return api.Verdict{
		Level:  r.num(api.Snapshot),
		Accept: r.num(1) == 1,
		Order:  list(r, api.MaxTxn, r.txn),
		Bad:    api.Bad{Kind: r.num(api.BLater), I: r.place(), J: r.place()},
		Ring:   list(r, api.MaxRing, r.edge),
	}
}

func (r *reader) edge() api.Edge {
	return api.Edge{Kind: r.num(api.GOver), From: r.txn(), To: r.txn(), I: r.place(), J: r.place()}
}

func (r *reader) proof() api.Proof {
	return api.Proof{I: r.place(), Event: r.event(), Path: r.path()}
}

func (r *reader) event() api.Event {
	x, e := event.Take(r.text(api.MaxText))
	want(e == api.OK)
	return x
}

func (r *reader) path() (path []string) {
	var e api.Errno
	path, r.rest, e = lump.TakeRow(r.rest, maxPath, api.Digest)
	want(e == api.OK)
	return path
}

func (r *reader) txn() int { return r.num(api.MaxTxn) }

func (r *reader) place() int { return r.num(api.MaxEvents - 1) }

// num takes a number of at most that much: a greater one might go round when it becomes an int.
func (r *reader) num(most int) int {
	var v uint64
	var e api.Errno
	v, r.rest, e = lump.TakeNum(r.rest)
	want(e == api.OK && v <= uint64(most))
	return int(v)
}

// text takes one of at most so many bytes.
func (r *reader) text(most int) (t string) {
	var e api.Errno
	t, r.rest, e = lump.TakeText(r.rest, most)
	want(e == api.OK)
	return t
}

// list takes how many there are, at most so many, and each of them.
func list[T any](r *reader, most int, one func() T) []T {
	l := make([]T, r.num(most))
	for i := range l {
		l[i] = one()
	}
	return l
}

// want ends the reading, if that isn't so: whatever is wrong, the bytes are of no form.
func want(is bool) {
	if !is {
		panic(api.ErrForm)
	}
}
