package cert

import (
	"fmt"
	"math"
	"math/rand"
	"slices"
	"strings"

	"cartouche/api"
	"cartouche/event"
	"cartouche/history"
	"cartouche/judge"
	"cartouche/redact"
	"cartouche/tree"
)

func begin(txn int) api.Event  { return api.Event{Kind: api.EBegin, Txn: txn} }
func commit(txn int) api.Event { return api.Event{Kind: api.ECommit, Txn: txn} }
func abort(txn int) api.Event  { return api.Event{Kind: api.EAbort, Txn: txn} }

func read(txn int, key, val string) api.Event {
	return api.Event{Kind: api.ERead, Txn: txn, Key: key, Val: val}
}

func write(txn int, key, val string) api.Event {
	return api.Event{Kind: api.EWrite, Txn: txn, Key: key, Val: val}
}

func edge(kind, from, to, i, j int) api.Edge {
	return api.Edge{Kind: kind, From: from, To: to, I: i, J: j}
}

func tainted(kind, i, j int) api.Verdict {
	return api.Verdict{Level: api.Serial, Bad: api.Bad{Kind: kind, I: i, J: j}}
}

func round(l ...api.Edge) api.Verdict {
	return api.Verdict{Level: api.Serial, Ring: l}
}

// filler is a text of so many bytes, among them such as tell lengths.
func filler(n int) string {
	b := make([]byte, n)
	for i := range b {
		b[i] = byte(i*7 + n)
	}
	return string(b)
}

// plainNeeds is P14.1 by its words: all places are told, those that the history doesn't have are left out, the others are put in order.
func plainNeeds(h []api.Event, v api.Verdict) []int {
	var told []int
	is := func(i int) bool { return 0 <= i && i < len(h) }
	end := func(txn int) {
		of := func(x api.Event) bool { return x.Txn == txn }
		ends := func(x api.Event) bool { return of(x) && (x.Kind == 4 || x.Kind == 5) }
		if slices.ContainsFunc(h, of) {
			told = append(told, slices.IndexFunc(h, ends))
		}
	}
	writer := func(i int) int {
		if !is(i) || h[i].Val == "" {
			return -1
		}
		return slices.IndexFunc(h, func(x api.Event) bool { return x.Kind == 3 && x.Key == h[i].Key && x.Val == h[i].Val })
	}
	switch {
	case v.Accept:
		return nil
	case v.Bad.Kind != 0:
		for _, i := range []int{v.Bad.I, v.Bad.J, writer(v.Bad.I)} {
			if is(i) {
				told = append(told, i)
				end(h[i].Txn)
			}
		}
	default:
		for _, e := range v.Ring {
			told = append(told, e.I, e.J)
			end(e.From)
			end(e.To)
			if w := writer(e.I); e.Kind == 3 && w >= 0 {
				told = append(told, w)
				end(h[w].Txn)
			}
		}
	}
	told = slices.DeleteFunc(told, func(i int) bool { return !is(i) })
	slices.Sort(told)
	return slices.Compact(told)
}

// plainMake is P14.2 by its words.
func plainMake(tenant string, seq int, prev, seed string, h []api.Event, level int) (api.Cert, api.Errno) {
	v, e := judge.Judge(h, level)
	if e != api.OK {
		return api.Cert{}, e
	}
	tags, e := redact.All(seed, h)
	if e != api.OK {
		return api.Cert{}, e
	}
	leaves, _ := event.Leaves(tags)
	root, _ := tree.Root(leaves)
	var proofs []api.Proof
	for _, i := range plainNeeds(h, v) {
		path, _ := tree.Path(leaves, i)
		proofs = append(proofs, api.Proof{I: i, Event: tags[i], Path: path})
	}
	c := api.Cert{Tenant: tenant, Seq: seq, Prev: prev, Root: root, Count: len(h), V: v, Proofs: proofs}
	if !plainMay(c) {
		return api.Cert{}, api.ErrArg
	}
	return c, api.OK
}

// plainMay is what chapter 14's words say of what a certificate may be.
func plainMay(c api.Cert) bool {
	txns, places := slices.Clone(c.V.Order), []int{c.V.Bad.I, c.V.Bad.J}
	sums := []string{c.Root}
	if len(c.Prev) > 0 {
		sums = append(sums, c.Prev)
	}
	for _, e := range c.V.Ring {
		if e.Kind < 1 || e.Kind > 3 {
			return false
		}
		txns, places = append(txns, e.From, e.To), append(places, e.I, e.J)
	}
	for _, p := range c.Proofs {
		if !event.May(p.Event) || len(p.Path) > 12 {
			return false
		}
		places, sums = append(places, p.I), append(sums, p.Path...)
	}
	for _, n := range txns {
		if n < 1 || n > 32 {
			return false
		}
	}
	for _, i := range places {
		if i < 0 || i > 255 {
			return false
		}
	}
	for _, s := range sums {
		if len(s) != 32 {
			return false
		}
	}
	return len(c.Tenant) >= 1 && len(c.Tenant) <= 16 && c.Seq >= 1 && c.Seq <= 1048576 && c.Count >= 0 && c.Count <= 256 &&
		(c.V.Level == 1 || c.V.Level == 2) && c.V.Bad.Kind >= 0 && c.V.Bad.Kind <= 4 &&
		len(c.V.Order) <= 32 && len(c.V.Ring) <= 128 && len(c.Proofs) <= 256
}

// plainNum and plainText are chapter 1's by its words (of a text that isn't too long).
func plainNum(n uint64) string {
	s := ""
	for ; n > 0; n /= 256 {
		s = string([]byte{byte(n % 256)}) + s
	}
	return string([]byte{byte(len(s))}) + s
}

func plainText(t string) string {
	return plainLength(len(t)) + t
}

func plainLength(n int) string {
	if n <= 250 {
		return string([]byte{byte(n)})
	}
	return string([]byte{251, byte(n / 256), byte(n % 256)})
}

// plainEvent are an event's bytes, as far as it has such.
func plainEvent(x api.Event) string {
	s := string([]byte{byte(x.Kind), byte(x.Txn)})
	if x.Kind == 2 || x.Kind == 3 {
		s += plainText(x.Key) + plainText(x.Val)
	}
	return s
}

// pieces are a certificate's bytes by P14.3's words, number by number and text by text (a path is one piece), whether it may be or not.
func pieces(c api.Cert) []string {
	var l []string
	nums := func(row ...int) {
		for _, n := range row {
			l = append(l, plainNum(uint64(n)))
		}
	}
	text := func(t string) { l = append(l, plainText(t)) }
	text(c.Tenant)
	nums(c.Seq)
	text(c.Prev)
	text(c.Root)
	nums(c.Count, c.V.Level, map[bool]int{true: 1}[c.V.Accept], len(c.V.Order))
	nums(c.V.Order...)
	nums(c.V.Bad.Kind, c.V.Bad.I, c.V.Bad.J, len(c.V.Ring))
	for _, e := range c.V.Ring {
		nums(e.Kind, e.From, e.To, e.I, e.J)
	}
	nums(len(c.Proofs))
	for _, p := range c.Proofs {
		nums(p.I)
		text(plainEvent(p.Event))
		row := plainLength(len(p.Path))
		for _, s := range p.Path {
			row += plainText(s)
		}
		l = append(l, row)
	}
	return l
}

func plainBytes(c api.Cert) string { return strings.Join(pieces(c), "") }

// copied shares nothing with what it is copied from.
func copied(c api.Cert) api.Cert {
	c.V.Order, c.V.Ring, c.Proofs = slices.Clone(c.V.Order), slices.Clone(c.V.Ring), slices.Clone(c.Proofs)
	for i := range c.Proofs {
		c.Proofs[i].Path = slices.Clone(c.Proofs[i].Path)
	}
	return c
}

// wellFormed has some transactions, one of which in six is given up, over some keys; about one read in so many sees what it should not see.
func wellFormed(r *rand.Rand, txns, most, keys, odd int) []api.Event {
	var h []api.Event
	open := r.Perm(txns)
	for i := range open {
		open[i]++
		h = append(h, begin(open[i]))
	}
	for n := range r.Intn(most + 1) {
		txn, key := open[r.Intn(len(open))], string(rune('a'+r.Intn(keys)))
		h = append(h, []api.Event{read(txn, key, ""), read(txn, key, ""), write(txn, key, fmt.Sprint("v", n))}[r.Intn(3)])
		if len(open) > 1 && r.Intn(2*txns) == 0 {
			h = append(h, end(r, txn))
			open = slices.DeleteFunc(open, func(x int) bool { return x == txn })
		}
	}
	for _, txn := range open {
		h = append(h, end(r, txn))
	}
	for i, x := range h {
		if x.Kind == api.ERead {
			h[i].Val = seenVal(r, h, i, odd)
		}
	}
	return h
}

func end(r *rand.Rand, txn int) api.Event {
	if r.Intn(6) == 0 {
		return abort(txn)
	}
	return commit(txn)
}

// seenVal is a value that a read may see: its own last write, else what was there at first or a version of another one; or an odd one.
func seenVal(r *rand.Rand, h []api.Event, i, odd int) string {
	vals := []string{""}
	if r.Intn(odd) == 0 {
		for _, x := range h {
			if x.Kind == api.EWrite && x.Key == h[i].Key {
				vals = append(vals, x.Val)
			}
		}
		return vals[r.Intn(len(vals))]
	}
	if own := history.Last(h, h[i].Txn, h[i].Key, i); own >= 0 {
		return h[own].Val
	}
	for _, place := range history.Versions(h, h[i].Key) {
		if h[place].Txn != h[i].Txn {
			vals = append(vals, h[place].Val)
		}
	}
	return vals[r.Intn(len(vals))]
}

// marred changes one event, leaves one out, or puts one in twice.
func marred(r *rand.Rand, h []api.Event) []api.Event {
	h = slices.Clone(h)
	i := r.Intn(len(h))
	switch r.Intn(5) {
	case 0:
		return slices.Delete(h, i, i+1)
	case 1:
		return slices.Insert(h, i, h[r.Intn(len(h))])
	case 2:
		h[i].Kind = r.Intn(8) - 1
	case 3:
		h[i].Txn = []int{-1, 0, 1, 2, 33, math.MinInt}[r.Intn(6)]
	case 4:
		h[i].Val = []string{"", "v0", "nobody's"}[r.Intn(3)]
	}
	return h
}

// someCert is one that may be: whatever its words leave open is at random, and at its bounds often.
func someCert(r *rand.Rand) api.Cert {
	between := func(least, most int) int {
		return []int{least, most, least + r.Intn(most-least+1)}[r.Intn(3)]
	}
	sum := func() string {
		b := make([]byte, 32)
		r.Read(b)
		return string(b)
	}
	few := func(most int) int { return []int{0, 1, most, r.Intn(most + 1), r.Intn(4)}[r.Intn(5)] }
	txn, place := func() int { return between(1, 32) }, func() int { return between(0, 255) }
	c := api.Cert{Tenant: filler(between(1, 16)), Seq: between(1, api.MaxSeq), Root: sum(), Count: between(0, 256)}
	if r.Intn(2) == 0 {
		c.Prev = sum()
	}
	c.V = api.Verdict{Level: between(1, 2), Accept: r.Intn(2) == 0, Bad: api.Bad{Kind: between(0, 4), I: place(), J: place()}}
	for range few(32) {
		c.V.Order = append(c.V.Order, txn())
	}
	for range few(128) {
		c.V.Ring = append(c.V.Ring, edge(between(1, 3), txn(), txn(), place(), place()))
	}
	for range few([]int{9, 256}[r.Intn(2)]) {
		x := []api.Event{begin(txn()), commit(txn()), abort(txn()), read(txn(), filler(between(1, 32)), filler(between(0, 32))), write(txn(), filler(between(1, 32)), filler(between(1, 32)))}[r.Intn(5)]
		p := api.Proof{I: place(), Event: x}
		for range few(12) {
			p.Path = append(p.Path, sum())
		}
		c.Proofs = append(c.Proofs, p)
	}
	return c
}
