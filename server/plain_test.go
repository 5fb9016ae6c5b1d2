package server

import (
	"math"
	"slices"
	"strings"

	"cartouche/api"
	"cartouche/blake"
	"cartouche/cert"
	"cartouche/pass"
)

// What follows is the document's words again, with nothing of the package; of those below it only passes, certificates and sums.

func begin(txn int) api.Event  { return api.Event{Kind: api.EBegin, Txn: txn} }
func commit(txn int) api.Event { return api.Event{Kind: api.ECommit, Txn: txn} }
func abort(txn int) api.Event  { return api.Event{Kind: api.EAbort, Txn: txn} }

func read(txn int, key, val string) api.Event {
	return api.Event{Kind: api.ERead, Txn: txn, Key: key, Val: val}
}

func write(txn int, key, val string) api.Event {
	return api.Event{Kind: api.EWrite, Txn: txn, Key: key, Val: val}
}

func filler(n int) string {
	b := make([]byte, n)
	for i := range b {
		b[i] = byte(i*7 + n)
	}
	return string(b)
}

// plainNum are a number's bytes.
func plainNum(n uint64) string {
	s := ""
	for ; n > 0; n /= 256 {
		s = string([]byte{byte(n % 256)}) + s
	}
	return string([]byte{byte(len(s))}) + s
}

// plainText are a text's bytes.
func plainText(s string) string {
	if len(s) <= 250 {
		return string([]byte{byte(len(s))}) + s
	}
	return string([]byte{251, byte(len(s) / 256), byte(len(s) % 256)}) + s
}

// plainEvent are an event's bytes.
func plainEvent(x api.Event) string {
	s := string([]byte{byte(x.Kind), byte(x.Txn)})
	if x.Kind == 2 || x.Kind == 3 {
		s += plainText(x.Key) + plainText(x.Val)
	}
	return s
}

// plainReply is what is replied.
func plainReply(e api.Errno, now uint64, body string) string {
	return plainNum(uint64(e)) + plainNum(now) + plainText(body)
}

// cutNum cuts off a number's bytes.
func cutNum(s string) (n uint64, rest string, is bool) {
	if s == "" || s[0] > 8 || len(s) < 1+int(s[0]) {
		return 0, s, false
	}
	end := 1 + int(s[0])
	for _, b := range []byte(s[1:end]) {
		n = n*256 + uint64(b)
	}
	return n, s[end:], plainNum(n) == s[:end]
}

// cutText cuts off the bytes of a text of at most 250 bytes.
func cutText(s string) (text, rest string, is bool) {
	if s == "" || s[0] > 250 || len(s) < 1+int(s[0]) {
		return "", s, false
	}
	return s[1 : 1+int(s[0])], s[1+int(s[0]):], true
}

// ticket is a pass, what it says, and what stands behind it.
type ticket struct {
	bytes, name string
	until       uint64
	rest        string
}

// cutTicket cuts off the text of a pass.
func cutTicket(s string) (ticket, bool) {
	p, rest, is := cutText(s)
	if !is || len(p) > 64 {
		return ticket{}, false
	}
	name, behind, named := cutText(p)
	until, seal, timed := cutNum(behind)
	if !named || !timed || name == "" || len(name) > 16 || len(seal) != 32 {
		return ticket{}, false
	}
	return ticket{p, name, until, rest}, true
}

// fits is what is told of a pass, of a tenant of that key.
func (p ticket) fits(key string, now uint64) api.Errno {
	own, e := pass.Issue(key, p.name, p.until)
	switch {
	case e != api.OK || own != p.bytes:
		return api.ErrPass
	case p.until < now:
		return api.ErrLate
	}
	return api.OK
}

// wish is what is asked for.
type wish struct {
	kind    byte
	x       api.Event
	n       int
	level   int
	isAWish bool
}

// plainWish is what bytes ask for: nothing, if they aren't just those of a wish.
func plainWish(s string) wish {
	if s == "" {
		return wish{}
	}
	w := wish{kind: s[0]}
	switch s[0] {
	case 'e':
		w.x = cutEvent(s[1:])
		w.isAWish = plainMay(w.x) && plainEvent(w.x) == s[1:]
	case 's', 'h':
		w.isAWish = s[1:] == ""
	case 'f':
		n, rest, is := cutNum(s[1:])
		w.isAWish = is && n <= 1048576 && rest == ""
		w.n = int(n)
	case 'j':
		n, rest, is := cutNum(s[1:])
		level, rest, also := cutNum(rest)
		w.isAWish = is && also && n <= 1048576 && level <= 1048576 && rest == ""
		w.n, w.level = int(n), int(level)
	}
	return w
}

// cutEvent is an event of which these may be the bytes.
func cutEvent(s string) api.Event {
	if len(s) < 2 {
		return api.Event{}
	}
	x := api.Event{Kind: int(s[0]), Txn: int(s[1])}
	rest := ""
	x.Key, rest, _ = cutText(s[2:])
	x.Val, _, _ = cutText(rest)
	return x
}

// plainMay: may an event be?
func plainMay(x api.Event) bool {
	if x.Txn < 1 || x.Txn > 32 {
		return false
	}
	switch x.Kind {
	case 1, 4, 5:
		return x.Key == "" && x.Val == ""
	case 2:
		return x.Key != "" && len(x.Key) <= 32 && len(x.Val) <= 32
	case 3:
		return x.Key != "" && len(x.Key) <= 32 && x.Val != "" && len(x.Val) <= 32
	}
	return false
}

// plainNew is a server of tenants, or the error.
func plainNew(l []api.Tenant, room int) (api.Audit, api.Errno) {
	var v api.Audit
	names := map[string]int{}
	for _, t := range l {
		names[t.Name]++
		if len(t.Name) < 1 || len(t.Name) > 16 || len(t.Key) < 1 || len(t.Key) > 32 || len(t.Seed) < 1 || len(t.Seed) > 32 {
			return api.Audit{}, api.ErrArg
		}
		v.T = append(v.T, api.Tenant{Name: t.Name, Key: t.Key, Seed: t.Seed, S: api.Store{T: api.Tape{Room: room, Fuse: -1}}, M: api.Meter{Left: 150}})
	}
	if len(l) > 4 || len(names) < len(l) || room < 0 {
		return api.Audit{}, api.ErrArg
	}
	return v, api.OK
}

// copied is another server of the same.
func copied(v api.Audit) api.Audit {
	v.T = slices.Clone(v.T)
	for i := range v.T {
		s := &v.T[i].S
		s.Open, s.Hists, s.Certs = slices.Clone(s.Open), slices.Clone(s.Hists), slices.Clone(s.Certs)
		for n := range s.Hists {
			s.Hists[n] = slices.Clone(s.Hists[n])
		}
	}
	return v
}

// plainFind is the first tenant of that name, or none.
func plainFind(v api.Audit, name string) *api.Tenant {
	for i := range v.T {
		if v.T[i].Name == name {
			return &v.T[i]
		}
	}
	return nil
}

// plainHandle does a request.
func plainHandle(v api.Audit, s string) (api.Audit, string) {
	v = copied(v)
	e, body := admitted(v, s)
	return v, plainReply(e, v.Now, body)
}

// admitted does a request to a server that may be written into.
func admitted(v api.Audit, s string) (api.Errno, string) {
	p, claims := cutTicket(s)
	if !claims {
		return api.ErrForm, ""
	}
	t := plainFind(v, p.name)
	if t == nil {
		return api.ErrPass, ""
	}
	if e := p.fits(t.Key, v.Now); e != api.OK {
		return e, ""
	}
	w := plainWish(p.rest)
	if !w.isAWish {
		return api.ErrForm, ""
	}
	if v.Now > t.M.At {
		t.M.Left = 150
	}
	cost := plainCost(*t, w)
	if cost > t.M.Left {
		return api.ErrQuota, ""
	}
	t.M = api.Meter{At: max(v.Now, t.M.At), Left: t.M.Left - cost}
	return granted(t, w)
}

// plainCost is how much work a wish is.
func plainCost(t api.Tenant, w wish) int {
	switch {
	case w.kind == 's':
		return 5
	case w.kind == 'j' && w.n < len(t.S.Hists):
		return 1 + len(t.S.Hists[w.n])
	}
	return 1
}

// granted does what is asked for.
func granted(t *api.Tenant, w wish) (api.Errno, string) {
	switch w.kind {
	case 'e':
		if len(t.S.Open) >= 64 {
			return api.ErrFull, ""
		}
		e := recorded(t, "e"+plainEvent(w.x), false)
		if e == api.OK {
			t.S.Open = append(t.S.Open, w.x)
		}
		return e, ""
	case 's':
		return plainSeal(t), ""
	case 'j':
		return plainCertify(t, w)
	case 'f':
		if w.n == 0 || w.n > len(t.S.Certs) {
			return api.ErrNone, ""
		}
		return api.OK, t.S.Certs[w.n-1]
	}
	return api.OK, plainHead(t.S.Certs)
}

func plainSeal(t *api.Tenant) api.Errno {
	if len(t.S.Open) == 0 {
		return api.ErrNone
	}
	if len(t.S.Hists) >= 8 {
		return api.ErrFull
	}
	e := recorded(t, "s", true)
	if e == api.OK {
		t.S.Hists, t.S.Open = append(t.S.Hists, t.S.Open), nil
	}
	return e
}

func plainCertify(t *api.Tenant, w wish) (api.Errno, string) {
	if w.n >= len(t.S.Hists) {
		return api.ErrNone, ""
	}
	c, e := cert.Make(t.Name, 1+len(t.S.Certs), plainHead(t.S.Certs), t.Seed, t.S.Hists[w.n], w.level)
	if e != api.OK {
		return e, ""
	}
	body, _ := cert.Bytes(c)
	if len(t.S.Certs) >= 16 {
		return api.ErrFull, ""
	}
	if e := recorded(t, "c"+body, true); e != api.OK {
		return e, ""
	}
	t.S.Certs = append(t.S.Certs, body)
	return api.OK, body
}

// plainHead is the sum behind all.
func plainHead(l []string) string {
	head := ""
	for _, body := range l {
		head = blake.Sum("\x03" + plainText(head) + plainText(body))
	}
	return head
}

// recorded writes a record on a tenant's tape.
func recorded(t *api.Tenant, rec string, sure bool) api.Errno {
	b, x := plainText(rec), &t.S.T
	switch {
	case x.Off:
		return api.ErrDead
	case len(rec) > 65535:
		return api.ErrBig
	case x.Room < len(b):
		return api.ErrFull
	case x.Fuse >= 0 && x.Fuse < len(b):
		x.Wait += b[:x.Fuse]
		x.Room -= x.Fuse
		x.Fuse, x.Off = 0, true
		return api.ErrDead
	}
	x.Wait += b
	x.Room -= len(b)
	if x.Fuse >= 0 {
		x.Fuse -= len(b)
	}
	if sure {
		x.Safe, x.Wait = x.Safe+x.Wait, ""
	}
	return api.OK
}

// plainTick lets time go on.
func plainTick(v api.Audit) api.Audit {
	if v.Now != math.MaxUint64 {
		v.Now++
	}
	return v
}

// plainArm sets when a tenant's power goes.
func plainArm(v api.Audit, name string, fuse int) api.Audit {
	v = copied(v)
	if t := plainFind(v, name); t != nil && !t.S.T.Off {
		t.S.T.Fuse = max(fuse, -1)
	}
	return v
}

// plainCrash begins anew a server whose tapes tell what it has: of what waits, only events that were put behind all else are lost.
func plainCrash(v api.Audit, keep int) api.Audit {
	v = copied(v)
	for i := range v.T {
		s := &v.T[i].S
		kept := s.T.Wait[:min(max(keep, 0), len(s.T.Wait))]
		whole, waited := "", len(plainRecords(s.Open, s.T.Wait))
		sure := len(s.Open) - waited
		for n := range waited {
			rec := plainText("e" + plainEvent(s.Open[sure+n]))
			if !strings.HasPrefix(kept[len(whole):], rec) {
				s.Open = s.Open[:sure+n]
				break
			}
			whole += rec
		}
		s.T = api.Tape{Safe: s.T.Safe + whole, Room: s.T.Room + len(s.T.Wait) - len(whole), Fuse: -1}
		v.T[i].M = api.Meter{At: v.Now, Left: 150}
	}
	return v
}

// plainRecords are those of the last events that are whole in what waits.
func plainRecords(open []api.Event, wait string) []api.Event {
	for n := range open {
		s := ""
		for _, x := range open[n:] {
			s += plainText("e" + plainEvent(x))
		}
		if strings.HasPrefix(wait, s) {
			return open[n:]
		}
	}
	return nil
}

// plainSame: the same, field by field?
func plainSame(a, b api.Audit) bool {
	return a.Now == b.Now && slices.EqualFunc(a.T, b.T, plainTenantSame)
}

func plainTenantSame(a, b api.Tenant) bool {
	return a.Name == b.Name && a.Key == b.Key && a.Seed == b.Seed && a.M.At == b.M.At && a.M.Left == b.M.Left &&
		a.S.T.Safe == b.S.T.Safe && a.S.T.Wait == b.S.T.Wait && a.S.T.Room == b.S.T.Room && a.S.T.Fuse == b.S.T.Fuse && a.S.T.Off == b.S.T.Off &&
		slices.Equal(a.S.Open, b.S.Open) && slices.EqualFunc(a.S.Hists, b.S.Hists, slices.Equal[[]api.Event]) && slices.Equal(a.S.Certs, b.S.Certs)
}
