package server

import (
	"cartouche/api"
	"cartouche/cert"
	"cartouche/chain"
	"cartouche/meter"
	"cartouche/store"
)

// account is a tenant, with what is done with it: all of that hangs on it alone, and on what it is told, so that no tenant's replies tell of another one's work.
type account struct {
	api.Tenant
}

// maxSecret is how many bytes a tenant's key, or its seed, has at most: both are keys of sums.
const maxSecret = 32

// may: may a server have it?
func (a account) may() bool {
	return within(a.Name, api.MaxName) && within(a.Key, maxSecret) && within(a.Seed, maxSecret)
}

// within: has a text one byte to most?
func within(s string, most int) bool {
	return s != "" && len(s) <= most
}

// serve takes the cost of what is asked for off the meter, and does it: the body of the reply, and its error.
func (a *account) serve(asked string, now uint64) (string, api.Errno) {
	q, is := take(asked)
	if !is {
		return "", api.ErrForm
	}
	m, e := meter.Charge(a.M, now, a.cost(q))
	if e != api.OK {
		return "", e
	}
	a.M = m // and so it stays: what comes to nothing is paid for too
	return a.do(q)
}

// cost is how much work a request is.
func (a account) cost(q request) int {
	switch q.kind {
	case sealing:
		return api.SealCost
	case judging:
		h, _ := a.sealed(q.number)
		return 1 + len(h)
	}
	return 1
}

// do does a request that is paid for.
func (a *account) do(q request) (body string, e api.Errno) {
	switch q.kind {
	case putting:
		a.S, e = store.Put(a.S, q.event)
	case sealing:
		a.S, e = store.Seal(a.S)
	case judging:
		body, e = a.judge(q.number, q.level)
	case fetching:
		body, e = a.fetch(q.number)
	case heading:
		body, e = chain.Head(a.S.Certs)
	}
	return body, e
}

// sealed is the sealed history of that number, from 0 on.
func (a account) sealed(number int) ([]api.Event, api.Errno) {
	if number >= len(a.S.Hists) {
		return nil, api.ErrNone
	}
	return a.S.Hists[number], api.OK
}

// judge makes a certificate of a sealed history, and notes it: its bytes.
func (a *account) judge(number, level int) (string, api.Errno) {
	h, e := a.sealed(number)
	if e != api.OK {
		return "", e
	}
	head, e := chain.Head(a.S.Certs)
	if e != api.OK {
		return "", e
	}
	c, e := cert.Make(a.Name, len(a.S.Certs)+1, head, a.Seed, h, level)
	if e != api.OK {
		return "", e
	}
	body, _ := cert.Bytes(c) // what was made may be
	a.S, e = store.Note(a.S, body)
	if e != api.OK { // a certificate that isn't noted is given to nobody
		return "", e
	}
	return body, api.OK
}

// fetch is the certificate of that number, from 1 on.
func (a account) fetch(number int) (string, api.Errno) {
	if number < 1 || number > len(a.S.Certs) {
		return "", api.ErrNone
	}
	return a.S.Certs[number-1], api.OK
}

// arm sets when its power goes.
func (a *account) arm(fuse int) {
	a.S = store.Arm(a.S, fuse)
}

// crash begins it anew.
func (a *account) crash(keep int, now uint64) (e api.Errno) {
	a.S, e = store.Crash(a.S, keep)
	a.M = meter.Full(now)
	return e
}

// same: is it the same as another one?
func (a account) same(b api.Tenant) bool {
	return a.Name == b.Name && a.Key == b.Key && a.Seed == b.Seed && store.Same(a.S, b.S) && a.M == b.M
}
