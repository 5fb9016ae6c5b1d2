package lean

import (
	"fmt"
	"math/rand"
	"slices"
	"strings"

	"cartouche/api"
	"cartouche/cert"
	"cartouche/edges"
	"cartouche/event"
	"cartouche/history"
	"cartouche/taint"
	"cartouche/tree"
)

var levels = []int{api.Serial, api.Snapshot}

func begins(txn int) api.Event  { return api.Event{Kind: api.EBegin, Txn: txn} }
func commits(txn int) api.Event { return api.Event{Kind: api.ECommit, Txn: txn} }
func aborts(txn int) api.Event  { return api.Event{Kind: api.EAbort, Txn: txn} }

func reads(txn int, key, val string) api.Event {
	return api.Event{Kind: api.ERead, Txn: txn, Key: key, Val: val}
}

func writes(txn int, key, val string) api.Event {
	return api.Event{Kind: api.EWrite, Txn: txn, Key: key, Val: val}
}

func edge(kind, from, to, i, j int) api.Edge {
	return api.Edge{Kind: kind, From: from, To: to, I: i, J: j}
}

// at says, as far as it is believed, that an event stands there.
func at(i int, x api.Event) api.Proof { return api.Proof{I: i, Event: x} }

// allOf are all events of a history, at their places.
func allOf(h []api.Event) []api.Proof {
	var l []api.Proof
	for i, x := range h {
		l = append(l, at(i, x))
	}
	return l
}

// without leaves out one proof.
func without(l []api.Proof, n int) []api.Proof {
	return slices.Delete(slices.Clone(l), n, n+1)
}

// plain is what chapter 15's words find in proofs: it is filled from the last one on, so that the first one of each stays.
type plain struct {
	at      map[int]api.Event
	ends    map[int]api.Proof
	writers map[[2]string]api.Proof
}

func plainOf(l []api.Proof) plain {
	k := plain{map[int]api.Event{}, map[int]api.Proof{}, map[[2]string]api.Proof{}}
	for _, p := range slices.Backward(l) {
		k.at[p.I] = p.Event
		switch x := p.Event; x.Kind {
		case 3:
			k.writers[[2]string{x.Key, x.Val}] = p
		case 4, 5:
			k.ends[x.Txn] = p
		}
	}
	return k
}

func (k plain) commit(txn int) (int, bool) {
	p, is := k.ends[txn]
	return p.I, is && p.Event.Kind == 4 && p.I >= 0
}

// bad is P15.2 by its words.
func (k plain) bad(b api.Bad) bool {
	x, isX := k.at[b.I]
	y, isY := k.at[b.J]
	if b.I < 0 || !isX || !isY || x.Kind != 2 || y.Kind != 3 || x.Key != y.Key {
		return false
	}
	if commit, is := k.commit(x.Txn); !is || commit <= b.I {
		return false
	}
	w, written := k.writers[[2]string{x.Key, x.Val}]
	switch b.Kind {
	case 1:
		ends, is := k.ends[y.Txn]
		return y.Val == x.Val && y.Txn != x.Txn && is && ends.Event.Kind == 5
	case 2:
		if y.Txn == x.Txn || y.Val == x.Val || x.Val == "" || !written {
			return false
		}
		return w.I < b.J && w.Event.Txn == y.Txn
	case 3:
		if y.Txn != x.Txn || b.J >= b.I || y.Val == x.Val {
			return false
		}
		if x.Val == "" {
			return true
		}
		return written && (w.Event.Txn != x.Txn || w.I < b.J || w.I > b.I)
	case 4:
		return y.Txn == x.Txn && b.J > b.I && y.Val == x.Val
	}
	return false
}

// edge is P15.3 by its words.
func (k plain) edge(e api.Edge) bool {
	from, isFrom := k.commit(e.From)
	to, isTo := k.commit(e.To)
	if e.From == e.To || !isFrom || !isTo {
		return false
	}
	x, isX := k.at[e.I]
	y, isY := k.at[e.J]
	if !isX || !isY || x.Txn != e.From || y.Txn != e.To || x.Key != y.Key {
		return false
	}
	switch {
	case e.Kind == 1 && x.Kind == 3 && y.Kind == 3:
		return from < to
	case e.Kind == 2 && x.Kind == 3 && y.Kind == 2:
		return x.Val == y.Val
	case e.Kind == 3 && x.Kind == 2 && y.Kind == 3:
		if x.Val == "" {
			return true
		}
		w, written := k.writers[[2]string{x.Key, x.Val}]
		if !written || w.Event.Txn == e.To {
			return false
		}
		ahead, is := k.commit(w.Event.Txn)
		return is && ahead < to
	}
	return false
}

// plainProved is P15.1 by its words.
func plainProved(c api.Cert, root string) api.Errno {
	if !cert.May(c) {
		return api.ErrArg
	}
	if c.Root != root {
		return api.ErrRoot
	}
	for n, p := range c.Proofs {
		if n > 0 && c.Proofs[n-1].I >= p.I {
			return api.ErrProof
		}
		s, e := event.Bytes(p.Event)
		if e != api.OK || tree.Check(root, c.Count, p.I, s, p.Path) != api.OK {
			return api.ErrProof
		}
	}
	return api.OK
}

// plainCheck is P15.4 by its words: the ring is laid out with its first edge once more behind it.
func plainCheck(c api.Cert, root string) api.Errno {
	if e := plainProved(c, root); e != api.OK {
		return e
	}
	v, k := c.V, plainOf(c.Proofs)
	switch {
	case v.Accept:
		return api.ErrState
	case len(v.Order) != 0:
		return api.ErrProof
	case v.Bad.Kind != 0:
		if len(v.Ring) != 0 || !k.bad(v.Bad) {
			return api.ErrProof
		}
		return api.OK
	case len(v.Ring) == 0:
		return api.ErrProof
	}
	out := append(slices.Clone(v.Ring), v.Ring[0])
	for i, e := range v.Ring {
		behind := out[i+1]
		if !k.edge(e) || behind.From != e.To || v.Level == 2 && e.Kind == 3 && behind.Kind == 3 {
			return api.ErrProof
		}
	}
	return api.OK
}

// proved are those events of a history, with their paths, and its root.
func proved(h []api.Event, places ...int) ([]api.Proof, string) {
	leaves, _ := event.Leaves(h)
	root, _ := tree.Root(leaves)
	var l []api.Proof
	for _, i := range places {
		path, _ := tree.Path(leaves, i)
		l = append(l, api.Proof{I: i, Event: h[i], Path: path})
	}
	return l, root
}

// placesOf are all places of a history.
func placesOf(h []api.Event) []int {
	var l []int
	for i := range h {
		l = append(l, i)
	}
	return l
}

// certOf is a certificate of a history as it is, with a verdict and proofs of those events.
func certOf(h []api.Event, v api.Verdict, places ...int) api.Cert {
	l, root := proved(h, places...)
	return api.Cert{Tenant: "t", Seq: 1, Root: root, Count: len(h), V: v, Proofs: l}
}

// copied shares nothing with what it is copied from.
func copied(c api.Cert) api.Cert {
	c.V.Order, c.V.Ring, c.Proofs = slices.Clone(c.V.Order), slices.Clone(c.V.Ring), slices.Clone(c.Proofs)
	for i := range c.Proofs {
		c.Proofs[i].Path = slices.Clone(c.Proofs[i].Path)
	}
	return c
}

// good: is a well formed history good at a level (chapter 12's words), with no step that leads on to where it began?
func good(h []api.Event, level int) bool {
	if len(taint.All(h)) > 0 {
		return false
	}
	leads := map[[2]int]bool{}
	for _, s := range edges.Steps(level, edges.All(h)) {
		leads[[2]int{s.From, s.To}] = true
	}
	nodes := edges.Nodes(h)
	for _, over := range nodes {
		for _, from := range nodes {
			for _, to := range nodes {
				if leads[[2]int{from, over}] && leads[[2]int{over, to}] {
					leads[[2]int{from, to}] = true
				}
			}
		}
	}
	return !slices.ContainsFunc(nodes, func(n int) bool { return leads[[2]int{n, n}] })
}

// wellFormed has some transactions that begin first, one of which in four is given up, and up to so many reads and writes; about one read in so many sees what it should not see.
func wellFormed(r *rand.Rand, txns, most, keys, odd int) []api.Event {
	var h []api.Event
	open := r.Perm(txns)
	for i := range open {
		open[i]++
		h = append(h, begins(open[i]))
	}
	ended := func(n int) {
		x := commits(open[n])
		if r.Intn(4) == 0 {
			x = aborts(open[n])
		}
		h, open = append(h, x), slices.Delete(open, n, n+1)
	}
	for n := range r.Intn(most + 1) {
		x := reads(open[r.Intn(len(open))], strings.Repeat("k", 1+r.Intn(keys)), "")
		if r.Intn(3) == 0 {
			x.Kind, x.Val = api.EWrite, fmt.Sprint("v", n)
		}
		h = append(h, x)
		if len(open) > 1 && r.Intn(2*txns) == 0 {
			ended(r.Intn(len(open)))
		}
	}
	for len(open) > 0 {
		ended(0)
	}
	for i, x := range h {
		if x.Kind == api.ERead {
			vals := mayBeSeen(h, i, r.Intn(odd) == 0)
			h[i].Val = vals[r.Intn(len(vals))]
		}
	}
	return h
}

// mayBeSeen are values that a read may see: its own last write, else what was there at first, and the versions of other ones; or else all that were written.
func mayBeSeen(h []api.Event, i int, all bool) []string {
	vals := []string{""}
	for place, x := range h {
		switch {
		case x.Kind != api.EWrite || x.Key != h[i].Key:
		case all || x.Txn != h[i].Txn && slices.Contains(history.Versions(h, x.Key), place):
			vals = append(vals, x.Val)
		}
	}
	if own := history.Last(h, h[i].Txn, h[i].Key, i); own >= 0 && !all {
		return []string{h[own].Val}
	}
	return vals
}

// some are places of a history, rising, one left out in so many.
func some(r *rand.Rand, h []api.Event, in int) []int {
	return slices.DeleteFunc(placesOf(h), func(int) bool { return r.Intn(in) == 0 })
}
