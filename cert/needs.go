package cert

import (
	"maps"
	"slices"

	"cartouche/api"
	"cartouche/history"
)

// needs gathers places of a history, each once.
type needs struct {
	h      []api.Event
	places map[int]struct{}
}

func noNeeds(h []api.Event) needs {
	return needs{h, map[int]struct{}{}}
}

// rising are the places that were gathered.
func (n needs) rising() []int {
	return slices.Sorted(maps.Keys(n.places))
}

// bad gathers what shows that a read saw what it should not have seen.
func (n needs) bad(b api.Bad) {
	n.ended(b.I)
	n.ended(b.J)
	n.writer(b.I)
}

// edge gathers what shows that an edge holds.
func (n needs) edge(e api.Edge) {
	n.place(e.I)
	n.place(e.J)
	n.end(e.From)
	n.end(e.To)
	if e.Kind == api.GOver {
		n.writer(e.I)
	}
}

// writer gathers where the value of the event at a place was written, and the end of that writer.
func (n needs) writer(i int) {
	if n.has(i) && n.h[i].Val != "" {
		n.ended(history.Writer(n.h, n.h[i].Key, n.h[i].Val))
	}
}

// ended gathers a place, and the end of its event's transaction.
func (n needs) ended(i int) {
	if n.has(i) {
		n.place(i)
		n.end(n.h[i].Txn)
	}
}

// end gathers where a transaction ends, if there is one: else the place 0 would be told of it.
func (n needs) end(txn int) {
	if life, there := history.Find(n.h, txn); there {
		n.place(life.To)
	}
}

// place gathers one, if the history has it: what isn't there, or doesn't end, has none.
func (n needs) place(i int) {
	if n.has(i) {
		n.places[i] = struct{}{}
	}
}

func (n needs) has(i int) bool {
	return i >= 0 && i < len(n.h)
}
