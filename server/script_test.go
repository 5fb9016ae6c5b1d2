package server

import (
	"fmt"
	"math"
	"math/rand"
	"slices"
	"testing"

	"cartouche/api"
	"cartouche/cert"
	"cartouche/check"
	"cartouche/event"
	"cartouche/lean"
	"cartouche/redact"
	"cartouche/tree"
)

// step is one of a script: a request, a tick, a loss of power that comes, or a crash.
type step struct {
	what byte
	s    string // the request, or the name of whom the power leaves
	n    int    // behind how many bytes, or how many are kept
}

func (x step) on(v api.Audit) (api.Audit, string) {
	switch x.what {
	case 'r':
		return Handle(v, x.s)
	case 't':
		return Tick(v), ""
	case 'a':
		return Arm(v, x.s, x.n), ""
	}
	v, e := Crash(v, x.n)
	return v, fmt.Sprint(e)
}

func (x step) plainOn(v api.Audit) (api.Audit, string) {
	switch x.what {
	case 'r':
		return plainHandle(v, x.s)
	case 't':
		return plainTick(v), ""
	case 'a':
		return plainArm(v, x.s, x.n), ""
	}
	return plainCrash(v, x.n), fmt.Sprint(api.OK)
}

// owns: is a step a tenant's own, or everybody's?
func (x step) owns(name string) bool {
	switch x.what {
	case 'r':
		p, is := cutTicket(x.s)
		return is && p.name == name
	case 'a':
		return x.s == name
	}
	return true
}

// four are tenants, of which two have one key, and two one seed.
func four() []api.Tenant {
	return []api.Tenant{{Name: "a", Key: "k", Seed: "s"}, {Name: "b", Key: "k", Seed: "u"}, {Name: "\x00", Key: filler(32), Seed: "s"}, {Name: filler(16), Key: "n", Seed: filler(32)}}
}

// author writes what one tenant asks for: histories, which are sealed, judged, and fetched.
type author struct {
	t      api.Tenant
	queue  []string
	seals  int
	judges int
}

func (a *author) next(r *rand.Rand) string {
	if len(a.queue) == 0 {
		a.queue = append(puts(someHistory(r)...), "s")
		a.seals++
		for range r.Intn(4) {
			a.judges++
			a.queue = append(a.queue, judged(max(a.seals-1-r.Intn(2), 0), 1+r.Intn(2)))
		}
	}
	switch r.Intn(20) {
	case 0:
		return fetched(r.Intn(a.judges + 2))
	case 1:
		return "h"
	case 2:
		return judged(r.Intn(a.seals+1), r.Intn(4))
	}
	s := a.queue[0]
	a.queue = a.queue[1:]
	return s
}

// someHistory is one of those that are known, or has some transactions over two keys, one of which in six is given up; they see what was there at first, or what others wrote.
func someHistory(r *rand.Rand) []api.Event {
	if n := r.Intn(12); n < 4 {
		return [][]api.Event{lost(), skew(), skew(), dirty()}[n]
	}
	var h, ends []api.Event
	many := 1 + r.Intn(4)
	for txn := 1; txn <= many; txn++ {
		h = append(h, begin(txn))
		end := commit(txn)
		if r.Intn(6) == 0 {
			end = abort(txn)
		}
		ends = append(ends, end)
	}
	vals := map[string][]string{"a": {""}, "b": {""}}
	for n := range r.Intn(3*many + 1) {
		txn, key := 1+r.Intn(many), []string{"a", "b"}[r.Intn(2)]
		if r.Intn(3) == 0 {
			vals[key] = append(vals[key], fmt.Sprint("v", n))
			h = append(h, write(txn, key, vals[key][len(vals[key])-1]))
			continue
		}
		from := len(vals[key])
		if r.Intn(2) == 0 {
			from = 1
		}
		h = append(h, read(txn, key, vals[key][r.Intn(from)]))
	}
	r.Shuffle(len(ends), func(i, j int) { ends[i], ends[j] = ends[j], ends[i] })
	return append(h, ends...)
}

// noise is what is no request, or whose pass doesn't fit; and some that may be a request by chance.
func noise(r *rand.Rand, t api.Tenant, now uint64) string {
	s := ticketOf(t.Key, t.Name, now+uint64(r.Intn(3))) + []string{"h", "s", judged(0, 1), fetched(1), put(begin(1)), ""}[r.Intn(6)]
	b := []byte(s)
	switch r.Intn(7) {
	case 0:
		b = make([]byte, r.Intn(80))
		r.Read(b)
		return string(b)
	case 1:
		b[r.Intn(len(b))] ^= byte(1 << r.Intn(8))
		return string(b)
	case 2:
		return s[:r.Intn(len(s))]
	case 3:
		return s + filler(1+r.Intn(3))
	case 4:
		return ticketOf(t.Key+"x", t.Name, now+9) + "h"
	case 5:
		return ticketOf(t.Key, "nobody", now+9) + "h"
	}
	return ticketOf(t.Key, t.Name, now-min(now, 1)) + "h"
}

// script is one of all tenants; the time goes on at one of so many steps.
func script(r *rand.Rand, l []api.Tenant, steps, ticks int) []step {
	var authors []*author
	for _, t := range l {
		authors = append(authors, &author{t: t})
	}
	var out []step
	now := uint64(0)
	for range steps {
		a := authors[r.Intn(len(authors))]
		switch n := r.Intn(100); {
		case r.Intn(ticks) == 0:
			now++
			out = append(out, step{what: 't'})
		case n < 8:
			out = append(out, step{what: 'r', s: noise(r, a.t, now)})
		case n < 10:
			out = append(out, step{what: 'a', s: append([]string{"nobody"}, a.t.Name, a.t.Name)[r.Intn(3)], n: r.Intn(400) - 50})
		case n < 12:
			out = append(out, step{what: 'c', n: r.Intn(60) - 5})
		default:
			until := []uint64{now, now + 1, math.MaxUint64}[r.Intn(3)]
			out = append(out, step{what: 'r', s: ticketOf(a.t.Key, a.t.Name, until) + a.next(r)})
		}
	}
	return out
}

// known is what a tenant knows by its replies alone: its open history, and how many events of that are sure; its sealed ones; its certificates.
type known struct {
	t     api.Tenant
	open  []api.Event
	sure  int
	hists [][]api.Event
	certs []string
}

// seen counts what tests went through, so that none of them says nothing.
type seen struct {
	told    map[api.Errno]int
	good    [3]map[bool]int
	crashes int
	lost    int
}

func newSeen() *seen {
	return &seen{told: map[api.Errno]int{}, good: [3]map[bool]int{1: {}, 2: {}}}
}

// step is what a tenant knows behind a step that is its own, and its reply; what it is told must be so.
func (k *known) step(t *testing.T, x step, reply string, s *seen) {
	t.Helper()
	if x.what == 'c' {
		kept, bytes := k.sure, 0
		for ; kept < len(k.open); kept++ {
			bytes += len(plainText(put(k.open[kept])))
			if bytes > x.n {
				break
			}
		}
		s.crashes, s.lost = s.crashes+1, s.lost+min(len(k.open)-kept, 1)
		k.open, k.sure = slices.Clip(k.open[:kept]), kept
	}
	if x.what != 'r' {
		return
	}
	n, _, _ := cutNum(reply)
	e, body := api.Errno(n), bodyOf(reply)
	s.told[e]++
	if e != api.OK {
		if body != "" {
			t.Errorf("%q beside the error %d", body, e)
		}
		return
	}
	p, _ := cutTicket(x.s)
	w := plainWish(p.rest)
	switch w.kind {
	case 'e':
		k.open = append(slices.Clip(k.open), w.x)
	case 's':
		k.hists, k.open, k.sure = append(slices.Clip(k.hists), k.open), nil, 0
	case 'j':
		k.wantTrue(t, body, w, s)
		k.certs, k.sure = append(slices.Clip(k.certs), body), len(k.open)
	case 'f':
		if body != k.certs[w.n-1] {
			t.Errorf("fetched %d: %.60q, want %.60q", w.n, body, k.certs[w.n-1])
		}
	case 'h':
		if body != plainHead(k.certs) {
			t.Errorf("the head of %d: %q", len(k.certs), body)
		}
	default:
		t.Errorf("%q is OK", x.s)
	}
}

// wantTrue is P19.6 of a certificate that is replied; and it stands behind those ahead of it.
func (k *known) wantTrue(t *testing.T, body string, w wish, s *seen) {
	t.Helper()
	h := k.hists[w.n]
	c, e := cert.Take(body)
	if e != api.OK || c.Tenant != k.t.Name || c.Seq != len(k.certs)+1 || c.Prev != plainHead(k.certs) || c.Count != len(h) || c.V.Level != w.level {
		t.Errorf("%d, %+v", e, c)
	}
	tagged, _ := redact.All(k.t.Seed, h)
	leaves, _ := event.Leaves(tagged)
	if root, _ := tree.Root(leaves); root != c.Root {
		t.Errorf("a root of another history: %q", c.Root)
	}
	if e := check.Check(h, c.V); e != api.OK {
		t.Errorf("with the history %s: %d, %+v", shownRow(h), e, c.V)
	}
	if e := lean.Check(c, c.Root); !c.V.Accept && e != api.OK || c.V.Accept && e != api.ErrState {
		t.Errorf("by the root alone, of %s: %d, %+v", shownRow(h), e, c.V)
	}
	if c.V.Accept != runs(h, w.level) {
		t.Errorf("%s at %d: accepted is %t", shownRow(h), w.level, c.V.Accept)
	}
	s.good[w.level][c.V.Accept]++
}

// want holds a tenant of a server against what is known of it (P19.7), and against its limits (P19.8).
func (k *known) want(t *testing.T, v api.Tenant, room int, now uint64) {
	t.Helper()
	if v.Name != k.t.Name || v.Key != k.t.Key || v.Seed != k.t.Seed {
		t.Errorf("another tenant: %q %q %q", v.Name, v.Key, v.Seed)
	}
	if !slices.Equal(v.S.Open, k.open) || !slices.EqualFunc(v.S.Hists, k.hists, slices.Equal[[]api.Event]) || !slices.Equal(v.S.Certs, k.certs) {
		t.Errorf("%q: %d open, %d sealed, %d certificates; want %d, %d, %d", v.Name, len(v.S.Open), len(v.S.Hists), len(v.S.Certs), len(k.open), len(k.hists), len(k.certs))
	}
	x := v.S.T
	if len(v.S.Open) > 64 || len(v.S.Hists) > 8 || len(v.S.Certs) > 16 || x.Room < 0 || x.Room+len(x.Safe)+len(x.Wait) != room {
		t.Errorf("%q: %d open, %d sealed, %d certificates, room for %d", v.Name, len(v.S.Open), len(v.S.Hists), len(v.S.Certs), x.Room)
	}
	if v.M.Left < 0 || v.M.Left > 150 || v.M.At > now {
		t.Errorf("%q: %d left at %d", v.Name, v.M.Left, v.M.At)
	}
}

// lives are the committed transactions of a well formed history, in the order of their ends.
func lives(h []api.Event) []int {
	var l []int
	for _, x := range h {
		if x.Kind == api.ECommit {
			l = append(l, x.Txn)
		}
	}
	return l
}

// replay runs transactions of a well formed history again: what is committed so far, and which versions of each key are still to come.
type replay struct {
	h     []api.Event
	state map[string]string
	left  map[string][]string
}

func newReplay(h []api.Event) *replay {
	p := &replay{h, map[string]string{}, map[string][]string{}}
	for _, txn := range lives(h) {
		for key, val := range p.last(txn) {
			p.left[key] = append(p.left[key], val)
		}
	}
	return p
}

// last is what a transaction wrote last of each key.
func (p *replay) last(txn int) map[string]string {
	last := map[string]string{}
	for _, x := range p.h {
		if x.Kind == api.EWrite && x.Txn == txn {
			last[x.Key] = x.Val
		}
	}
	return last
}

// sees: would a transaction that begins now read what it did read?
func (p *replay) sees(txn int) bool {
	own := map[string]string{}
	for _, x := range p.h {
		if x.Txn != txn {
			continue
		}
		if x.Kind == api.EWrite {
			own[x.Key] = x.Val
		}
		val, is := own[x.Key]
		if !is {
			val = p.state[x.Key]
		}
		if x.Kind == api.ERead && x.Val != val {
			return false
		}
	}
	return true
}

// put commits a transaction, if what it wrote is each key's next version; back takes it back.
func (p *replay) put(txn int) (back func(), is bool) {
	last := p.last(txn)
	for key, val := range last {
		if p.left[key][0] != val {
			return nil, false
		}
	}
	was := map[string]string{}
	for key, val := range last {
		was[key] = p.state[key]
		p.state[key], p.left[key] = val, p.left[key][1:]
	}
	return func() {
		for key, val := range was {
			p.left[key] = append([]string{p.state[key]}, p.left[key]...)
			p.state[key] = val
		}
	}, true
}

// began are how many versions of its keys were to come where a transaction began.
func (p *replay) began(txn int) map[string]int {
	l := map[string]int{}
	for key := range p.last(txn) {
		l[key] = len(p.left[key])
	}
	return l
}

// runs: can the committed transactions be run again such that all read what they did, and keys have their versions in that order? As Serial one behind the other; as Snapshot side by side, each reading what was committed where it began, and none being committed if a key of its writes got another version since.
func runs(h []api.Event, level int) bool {
	p := newReplay(h)
	var run func(waiting, running []int, began map[int]map[string]int) bool
	without := func(l []int, i int) []int { return slices.Delete(slices.Clone(l), i, i+1) }
	run = func(waiting, running []int, began map[int]map[string]int) bool {
		if len(waiting)+len(running) == 0 {
			return true
		}
		for i, txn := range running {
			if fmt.Sprint(p.began(txn)) != fmt.Sprint(began[txn]) {
				continue
			}
			back, is := p.put(txn)
			if !is {
				continue
			}
			if run(waiting, without(running, i), began) {
				return true
			}
			back()
		}
		for i, txn := range waiting {
			if level == api.Serial && len(running) > 0 || !p.sees(txn) {
				continue
			}
			began[txn] = p.began(txn)
			if run(without(waiting, i), append(slices.Clone(running), txn), began) {
				return true
			}
		}
		return false
	}
	return run(lives(h), nil, map[int]map[string]int{})
}
