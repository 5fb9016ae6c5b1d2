package lean

import (
	"slices"

	"cartouche/api"
)

// none is the place of what is nowhere: no commit counts that stands there, and each place of a history is above it.
const none = -1

// first is the first such proof.
func first(l []api.Proof, such func(p api.Proof) bool) (api.Proof, bool) {
	i := slices.IndexFunc(l, such)
	if i < 0 {
		return api.Proof{}, false
	}
	return l[i], true
}

// eventAt is the event at a place; where there is none, it has no kind.
func eventAt(l []api.Proof, i int) api.Event {
	p, _ := first(l, func(p api.Proof) bool { return p.I == i })
	return p.Event
}

// end is a transaction's end; where there is none, its event has no kind.
func end(l []api.Proof, txn int) api.Proof {
	p, _ := first(l, func(p api.Proof) bool {
		return p.Event.Txn == txn && (p.Event.Kind == api.ECommit || p.Event.Kind == api.EAbort)
	})
	return p
}

// commit is where a transaction was committed, as far as that is shown.
func commit(l []api.Proof, txn int) int {
	if p := end(l, txn); p.Event.Kind == api.ECommit && p.I >= 0 {
		return p.I
	}
	return none
}

// writer is who wrote what a read saw.
func writer(l []api.Proof, read api.Event) (api.Proof, bool) {
	return first(l, func(p api.Proof) bool {
		return p.Event.Kind == api.EWrite && p.Event.Key == read.Key && p.Event.Val == read.Val
	})
}
