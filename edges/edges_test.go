package edges

import (
	"math"
	"math/rand"
	"slices"
	"sort"
	"testing"

	"cartouche/api"
	"cartouche/history"
	"cartouche/taint"
)

func begin(txn int) api.Event  { return api.Event{Kind: api.EBegin, Txn: txn} }
func commit(txn int) api.Event { return api.Event{Kind: api.ECommit, Txn: txn} }
func abort(txn int) api.Event  { return api.Event{Kind: api.EAbort, Txn: txn} }

func read(txn int, key, val string) api.Event {
	return api.Event{Kind: api.ERead, Txn: txn, Key: key, Val: val}
}

func write(txn int, key, val string) api.Event {
	return api.Event{Kind: api.EWrite, Txn: txn, Key: key, Val: val}
}

func edge(kind, from, to, i, j int) api.Edge {
	return api.Edge{Kind: kind, From: from, To: to, I: i, J: j}
}

// plainEnd is the place of a transaction's end, and whether it is a commit; how many events there are, if there is none.
func plainEnd(h []api.Event, txn int) (int, bool) {
	for i, x := range h {
		if x.Txn == txn && (x.Kind == 4 || x.Kind == 5) {
			return i, x.Kind == 4
		}
	}
	return len(h), false
}

// plainLast is the place of a transaction's last write of a key among the first events; -1, if there is none.
func plainLast(h []api.Event, txn int, key string, many int) int {
	for i := many - 1; i >= 0; i-- {
		if h[i].Kind == 3 && h[i].Txn == txn && h[i].Key == key {
			return i
		}
	}
	return -1
}

func plainVersions(h []api.Event, key string) []int {
	var l []int
	for i, x := range h {
		end, committed := plainEnd(h, x.Txn)
		if last := plainLast(h, x.Txn, key, end); committed && end == i && last >= 0 {
			l = append(l, last)
		}
	}
	return l
}

func plainOuter(h []api.Event, i int) bool {
	end, committed := plainEnd(h, h[i].Txn)
	return h[i].Kind == 2 && committed && i < end && plainLast(h, h[i].Txn, h[i].Key, i) < 0
}

func plainKeys(h []api.Event) []string {
	var keys []string
	for _, x := range h {
		if x.Kind == 2 || x.Kind == 3 {
			keys = append(keys, x.Key)
		}
	}
	sort.Strings(keys)
	return slices.Compact(keys)
}

// plainAll are the edges by P10.1's words.
func plainAll(h []api.Event) []api.Edge {
	var all []api.Edge
	for _, key := range plainKeys(h) {
		v := plainVersions(h, key)
		for n := 1; n < len(v); n++ {
			if h[v[n-1]].Txn != h[v[n]].Txn {
				all = append(all, api.Edge{Kind: 1, From: h[v[n-1]].Txn, To: h[v[n]].Txn, I: v[n-1], J: v[n]})
			}
		}
		for i, x := range h {
			if x.Key != key || !plainOuter(h, i) {
				continue
			}
			n := 0
			for n < len(v) && h[v[n]].Val != x.Val {
				n++
			}
			if n == len(v) {
				if len(x.Val) > 0 {
					continue
				}
				n = -1
			}
			if n >= 0 && h[v[n]].Txn != x.Txn {
				all = append(all, api.Edge{Kind: 2, From: h[v[n]].Txn, To: x.Txn, I: v[n], J: i})
			}
			if n+1 < len(v) && h[v[n+1]].Txn != x.Txn {
				all = append(all, api.Edge{Kind: 3, From: x.Txn, To: h[v[n+1]].Txn, I: i, J: v[n+1]})
			}
		}
	}
	return all
}

// plainHolds is P10.2 by its words.
func plainHolds(h []api.Event, e api.Edge) bool {
	if e.I < 0 || e.J < 0 || e.I >= len(h) || e.J >= len(h) || e.From == e.To {
		return false
	}
	fromEnd, fromCommitted := plainEnd(h, e.From)
	toEnd, toCommitted := plainEnd(h, e.To)
	if !fromCommitted || !toCommitted {
		return false
	}
	is := func(place, kind, txn int) bool { return h[place].Kind == kind && h[place].Txn == txn }
	oneKey, oneVal := h[e.I].Key == h[e.J].Key, h[e.I].Val == h[e.J].Val
	if e.Kind == 1 {
		return is(e.I, 3, e.From) && is(e.J, 3, e.To) && oneKey && fromEnd < toEnd
	}
	if e.Kind == 2 {
		return is(e.I, 3, e.From) && is(e.J, 2, e.To) && oneKey && oneVal
	}
	if e.Kind != 3 || !is(e.I, 2, e.From) || !is(e.J, 3, e.To) || !oneKey {
		return false
	}
	if h[e.I].Val == "" {
		return true
	}
	for _, x := range h {
		if x.Kind == 3 && x.Key == h[e.I].Key && x.Val == h[e.I].Val {
			end, committed := plainEnd(h, x.Txn)
			return committed && x.Txn != e.To && end < toEnd
		}
	}
	return false
}

func plainNodes(h []api.Event) []int {
	var nodes []int
	for _, x := range h {
		if _, committed := plainEnd(h, x.Txn); committed && !slices.Contains(nodes, x.Txn) {
			nodes = append(nodes, x.Txn)
		}
	}
	sort.Ints(nodes)
	return nodes
}

// plainSteps are the steps by P10.3's words.
func plainSteps(level int, l []api.Edge) []api.Step {
	var steps []api.Step
	for _, e := range l {
		if level == 1 || level == 2 && e.Kind != 3 {
			steps = append(steps, api.Step{From: e.From, To: e.To, E: []api.Edge{e}})
		}
		if level != 2 || e.Kind == 3 {
			continue
		}
		for _, over := range l {
			if over.Kind == 3 && over.From == e.To {
				steps = append(steps, api.Step{From: e.From, To: over.To, E: []api.Edge{e, over}})
			}
		}
	}
	return steps
}

func sameSteps(a, b []api.Step) bool {
	return slices.EqualFunc(a, b, func(x, y api.Step) bool {
		return x.From == y.From && x.To == y.To && slices.Equal(x.E, y.E)
	})
}

// edgesHeld holds Holds of one edge, and of what is next to it, against the document's words.
func edgesHeld(t *testing.T, h []api.Event, e api.Edge, seen map[int]int) {
	t.Helper()
	for kind := -1; kind <= 5; kind++ {
		e.Kind = kind
		want := plainHolds(h, e)
		if is := Holds(h, e); is != want {
			t.Fatalf("Holds of %v, %v: %t", h, e, is)
		}
		if want {
			seen[kind+10]++
		}
	}
}

// heldAgainstWords holds All, Nodes, Steps, and Holds of every two places, against the document's words; it counts the kinds of edges that are told, and, 10 above, of those that hold.
func heldAgainstWords(t *testing.T, h []api.Event, seen map[int]int) {
	t.Helper()
	all := All(h)
	if want := plainAll(h); !slices.Equal(all, want) {
		t.Fatalf("All of %v: %v, want %v", h, all, want)
	}
	for _, e := range all {
		seen[e.Kind]++
	}
	if l, want := Nodes(h), plainNodes(h); !slices.Equal(l, want) {
		t.Fatalf("Nodes of %v: %v, want %v", h, l, want)
	}
	for level := range 4 {
		if l, want := Steps(level, all), plainSteps(level, all); !sameSteps(l, want) {
			t.Fatalf("Steps of %d, %v: %v, want %v", level, all, l, want)
		}
	}
	for i, x := range h {
		for j, y := range h {
			edgesHeld(t, h, edge(0, x.Txn, y.Txn, i, j), seen)
		}
	}
}

// rows calls do with each row of at most so many of the events.
func rows(events []api.Event, most int, do func(h []api.Event)) {
	h := make([]api.Event, 0, most)
	var longer func()
	longer = func() {
		do(h)
		if len(h) == most {
			return
		}
		for _, x := range events {
			h = append(h, x)
			longer()
			h = h[:len(h)-1]
		}
	}
	longer()
}

// anyHistory has any events, of some few names, most of which may be; many of its transactions end late.
func anyHistory(r *rand.Rand, many, txns int) []api.Event {
	texts := []string{"a", "b", "ab", "", "\x00", "\xff"}
	h := make([]api.Event, many)
	for i := range h {
		x := api.Event{Kind: api.ERead + r.Intn(2), Txn: r.Intn(txns)}
		if i > many/2 || r.Intn(8) == 0 {
			x.Kind = []int{api.EBegin, api.ERead, api.EWrite, api.ECommit, api.ECommit, api.EAbort}[r.Intn(6)]
		}
		if r.Intn(20) == 0 {
			x.Kind, x.Txn = r.Intn(9)-2, []int{-1, 33, math.MinInt, math.MaxInt}[r.Intn(4)]
		}
		if x.Kind == api.ERead || x.Kind == api.EWrite || r.Intn(20) == 0 {
			x.Key, x.Val = texts[r.Intn(3)], texts[r.Intn(len(texts))]
		}
		h[i] = x
	}
	return h
}

// P10.1: each kind of edge, in order, and what is none.
func TestAll(t *testing.T) {
	for _, c := range []struct {
		what string
		h    []api.Event
		want []api.Edge
	}{
		{"no event", nil, nil},
		{"the example", []api.Event{begin(1), begin(2), read(2, "a", ""), write(1, "a", "x"), commit(1), commit(2)}, []api.Edge{edge(api.GOver, 2, 1, 2, 3)}},
		{"the example's other order of ends", []api.Event{begin(1), begin(2), read(2, "a", ""), write(1, "a", "x"), commit(2), commit(1)}, []api.Edge{edge(api.GOver, 2, 1, 2, 3)}},
		{"what was there at first, read behind the end", []api.Event{begin(1), write(1, "a", "x"), commit(1), begin(2), read(2, "a", ""), commit(2)}, []api.Edge{edge(api.GOver, 2, 1, 4, 1)}},

		{"two versions", []api.Event{begin(1), write(1, "a", "x"), commit(1), begin(2), write(2, "a", "y"), commit(2)}, []api.Edge{edge(api.GWrite, 1, 2, 1, 4)}},
		{"by ends, not by writes", []api.Event{begin(1), begin(2), write(1, "a", "x"), write(2, "a", "y"), commit(2), commit(1)}, []api.Edge{edge(api.GWrite, 2, 1, 3, 2)}},
		{"the last writes", []api.Event{begin(1), begin(2), write(1, "a", "x"), write(2, "a", "y"), write(1, "a", "z"), write(2, "a", "u"), commit(1), commit(2)}, []api.Edge{edge(api.GWrite, 1, 2, 4, 5)}},
		{"three versions: neighbours alone", []api.Event{write(1, "a", "x"), write(2, "a", "y"), write(3, "a", "z"), commit(3), commit(1), commit(2)}, []api.Edge{edge(api.GWrite, 3, 1, 2, 0), edge(api.GWrite, 1, 2, 0, 1)}},
		{"one is given up", []api.Event{write(1, "a", "x"), write(2, "a", "y"), write(3, "a", "z"), commit(1), abort(2), commit(3)}, []api.Edge{edge(api.GWrite, 1, 3, 0, 2)}},
		{"one doesn't end", []api.Event{write(1, "a", "x"), write(2, "a", "y"), commit(1)}, nil},
		{"of two keys", []api.Event{write(1, "a", "x"), write(2, "b", "y"), commit(1), commit(2)}, nil},
		{"one transaction writes twice", []api.Event{write(1, "a", "x"), write(1, "a", "y"), commit(1)}, nil},
		{"one is committed twice", []api.Event{write(1, "a", "x"), commit(1), write(1, "a", "y"), commit(1)}, nil},

		{"a read", []api.Event{begin(1), write(1, "a", "x"), commit(1), begin(2), read(2, "a", "x"), commit(2)}, []api.Edge{edge(api.GRead, 1, 2, 1, 4)}},
		{"a read ahead of the write", []api.Event{begin(1), begin(2), read(2, "a", "x"), commit(2), write(1, "a", "x"), commit(1)}, []api.Edge{edge(api.GRead, 1, 2, 4, 2)}},
		{"two reads of one", []api.Event{write(1, "a", "x"), commit(1), read(2, "a", "x"), read(2, "a", "x"), commit(2)}, []api.Edge{edge(api.GRead, 1, 2, 0, 2), edge(api.GRead, 1, 2, 0, 3)}},
		{"a read of the first of two", []api.Event{write(1, "a", "x"), commit(1), write(2, "a", "y"), commit(2), read(3, "a", "x"), commit(3)}, []api.Edge{edge(api.GWrite, 1, 2, 0, 2), edge(api.GRead, 1, 3, 0, 4), edge(api.GOver, 3, 2, 4, 2)}},
		{"a read of the second of two", []api.Event{write(1, "a", "x"), commit(1), write(2, "a", "y"), commit(2), read(3, "a", "y"), commit(3)}, []api.Edge{edge(api.GWrite, 1, 2, 0, 2), edge(api.GRead, 2, 3, 2, 4)}},
		{"a read of what was ahead of two", []api.Event{write(1, "a", "x"), commit(1), write(2, "a", "y"), commit(2), read(3, "a", ""), commit(3)}, []api.Edge{edge(api.GWrite, 1, 2, 0, 2), edge(api.GOver, 3, 1, 4, 0)}},
		{"a read of the first of three", []api.Event{write(1, "a", "x"), commit(1), write(2, "a", "y"), commit(2), write(3, "a", "z"), commit(3), read(4, "a", "x"), commit(4)}, []api.Edge{edge(api.GWrite, 1, 2, 0, 2), edge(api.GWrite, 2, 3, 2, 4), edge(api.GRead, 1, 4, 0, 6), edge(api.GOver, 4, 2, 6, 2)}},
		{"the next one is its own", []api.Event{begin(1), write(1, "a", "x"), commit(1), begin(2), read(2, "a", "x"), write(2, "a", "y"), commit(2)}, []api.Edge{edge(api.GWrite, 1, 2, 1, 5), edge(api.GRead, 1, 2, 1, 4)}},
		{"the first one is its own", []api.Event{begin(1), read(1, "a", ""), write(1, "a", "x"), commit(1), begin(2), write(2, "a", "y"), commit(2)}, []api.Edge{edge(api.GWrite, 1, 2, 2, 5)}},
		{"it read its own later write", []api.Event{begin(1), read(1, "a", "x"), write(1, "a", "x"), commit(1), begin(2), write(2, "a", "y"), commit(2)}, []api.Edge{edge(api.GWrite, 1, 2, 2, 5), edge(api.GOver, 1, 2, 1, 5)}},
		{"a read behind its own write", []api.Event{begin(1), begin(2), write(2, "a", "y"), read(2, "a", "y"), commit(2), write(1, "a", "x"), commit(1)}, []api.Edge{edge(api.GWrite, 2, 1, 2, 5)}},
		{"a read of the first value behind its own write", []api.Event{write(2, "a", "y"), read(2, "a", ""), commit(2), write(1, "a", "x"), commit(1)}, []api.Edge{edge(api.GWrite, 2, 1, 0, 3)}},
		{"a read of what was given up", []api.Event{write(1, "a", "x"), abort(1), write(2, "a", "y"), commit(2), read(3, "a", "x"), commit(3)}, nil},
		{"a read of what is in the middle", []api.Event{write(1, "a", "x"), write(1, "a", "y"), commit(1), write(2, "a", "z"), commit(2), read(3, "a", "x"), commit(3)}, []api.Edge{edge(api.GWrite, 1, 2, 1, 3)}},
		{"a read of what nobody wrote", []api.Event{write(1, "a", "x"), commit(1), read(3, "a", "y"), commit(3)}, nil},
		{"a read of another key's value", []api.Event{write(1, "a", "x"), commit(1), write(1, "b", "y"), read(3, "b", "x"), commit(3)}, nil},
		{"a read that was given up", []api.Event{write(1, "a", "x"), commit(1), read(2, "a", "x"), abort(2)}, nil},
		{"a read that doesn't end", []api.Event{write(1, "a", "x"), commit(1), read(2, "a", "")}, nil},
		{"a read behind its end", []api.Event{write(1, "a", "x"), commit(1), commit(2), read(2, "a", "x")}, nil},
		{"a write behind its end", []api.Event{commit(1), write(1, "a", "x"), read(2, "a", "x"), read(2, "a", ""), commit(2)}, nil},
		{"a version of nothing", []api.Event{write(1, "a", ""), commit(1), write(2, "a", "y"), commit(2), read(3, "a", ""), commit(3)}, []api.Edge{edge(api.GWrite, 1, 2, 0, 2), edge(api.GRead, 1, 3, 0, 4), edge(api.GOver, 3, 2, 4, 2)}},
		{"two versions of one value: the first", []api.Event{write(1, "a", "x"), commit(1), write(2, "a", "x"), commit(2), read(3, "a", "x"), commit(3)}, []api.Edge{edge(api.GWrite, 1, 2, 0, 2), edge(api.GRead, 1, 3, 0, 4), edge(api.GOver, 3, 2, 4, 2)}},
		{"what has a key and is no read", []api.Event{write(1, "a", "x"), commit(1), {Kind: api.EBegin, Txn: 2, Key: "a", Val: "x"}, commit(2)}, nil},
		{"the empty key", []api.Event{write(1, "", "x"), commit(1), begin(2), read(2, "", "x"), commit(2)}, []api.Edge{edge(api.GRead, 1, 2, 0, 3)}},

		{"key by key, rising; writes ahead of reads; reads by their places", []api.Event{
			begin(3), read(3, "b", ""), read(3, "a", "x"), write(1, "b", "u"), write(1, "a", "x"), write(2, "b", "v"), write(2, "a", "y"), write(2, "ab", "z"),
			commit(1), commit(2), read(3, "b", "u"), read(3, "ab", "z"), read(3, "a", ""), commit(3),
		}, []api.Edge{
			edge(api.GWrite, 1, 2, 4, 6), edge(api.GRead, 1, 3, 4, 2), edge(api.GOver, 3, 2, 2, 6), edge(api.GOver, 3, 1, 12, 4),
			edge(api.GRead, 2, 3, 7, 11),
			edge(api.GWrite, 1, 2, 3, 5), edge(api.GOver, 3, 1, 1, 3), edge(api.GRead, 1, 3, 3, 10), edge(api.GOver, 3, 2, 10, 5),
		}},
	} {
		if l := All(c.h); !slices.Equal(l, c.want) {
			t.Errorf("%s: %v, want %v", c.what, l, c.want)
		}
		heldAgainstWords(t, c.h, map[int]int{})
	}
}

// P10.2: what holds, and what is next to it.
func TestHolds(t *testing.T) {
	h := []api.Event{
		0: begin(1), 1: begin(2), 2: begin(3), 3: begin(4),
		4: write(1, "a", "x"), 5: write(1, "a", "y"), 6: write(1, "b", "u"), 7: read(1, "c", ""),
		8: read(2, "a", "y"), 9: read(2, "a", "x"), 10: read(2, "b", ""), 11: write(2, "a", "z"), 12: write(2, "b", "y"),
		13: read(3, "a", "y"), 14: write(3, "a", "q"), 15: read(3, "a", ""), 16: write(3, "c", "c"), 17: read(3, "a", "nobody's"),
		18: write(4, "a", "g"), 19: read(4, "a", "y"), 20: write(4, "c", "h"), 21: read(3, "a", "g"),
		22: commit(1), 23: commit(2), 24: abort(4), 25: commit(3), 26: read(2, "a", "q"),
		27: write(5, "a", "p"), 28: read(5, "a", ""), 29: read(2, "c", "c"), 30: read(1, "a", "z"), 31: read(3, "a", "q"), 32: read(1, "a", "y"),
	}
	for _, c := range []struct {
		what string
		e    api.Edge
		want bool
	}{
		{"writes, the first ends first", edge(api.GWrite, 1, 2, 5, 11), true},
		{"writes that are none's last", edge(api.GWrite, 1, 2, 4, 11), true},
		{"writes that are no neighbours", edge(api.GWrite, 1, 3, 4, 14), true},
		{"writes, the first ends later", edge(api.GWrite, 2, 1, 11, 5), false},
		{"writes, From and To are turned", edge(api.GWrite, 2, 1, 5, 11), false},
		{"writes, the places are turned", edge(api.GWrite, 1, 2, 11, 5), false},
		{"writes of two keys", edge(api.GWrite, 1, 2, 6, 11), false},
		{"writes of two keys and one value", edge(api.GWrite, 1, 2, 5, 12), false},
		{"writes of one", edge(api.GWrite, 1, 1, 4, 5), false},
		{"writes of others", edge(api.GWrite, 2, 3, 5, 14), false},
		{"a write, the other one of another", edge(api.GWrite, 1, 3, 5, 11), false},
		{"the first one is a read", edge(api.GWrite, 2, 3, 8, 14), false},
		{"the second one is a read", edge(api.GWrite, 1, 2, 5, 8), false},
		{"writes, To was given up", edge(api.GWrite, 1, 4, 5, 18), false},
		{"writes, From was given up", edge(api.GWrite, 4, 3, 18, 14), false},
		{"writes, To doesn't end", edge(api.GWrite, 1, 5, 5, 27), false},
		{"writes, From doesn't end", edge(api.GWrite, 5, 1, 27, 5), false},

		{"a read", edge(api.GRead, 1, 2, 5, 8), true},
		{"a read of what is in the middle", edge(api.GRead, 1, 2, 4, 9), true},
		{"a read behind its end", edge(api.GRead, 3, 2, 14, 26), true},
		{"a read by one that ends first", edge(api.GRead, 2, 1, 11, 30), true},
		{"another value", edge(api.GRead, 1, 2, 4, 8), false},
		{"another key, one value", edge(api.GRead, 2, 3, 12, 13), false},
		{"a read of its own", edge(api.GRead, 3, 3, 14, 31), false},
		{"a read, From and To are turned", edge(api.GRead, 2, 1, 5, 8), false},
		{"a read, the places are turned", edge(api.GRead, 1, 2, 8, 5), false},
		{"a read by another one", edge(api.GRead, 1, 3, 5, 8), false},
		{"a read of another one's", edge(api.GRead, 2, 3, 5, 13), false},
		{"a read, To was given up", edge(api.GRead, 1, 4, 5, 19), false},
		{"a read, From was given up", edge(api.GRead, 4, 3, 18, 21), false},
		{"two reads of one value", edge(api.GRead, 2, 3, 8, 13), false},

		{"what was there at first", edge(api.GOver, 2, 1, 10, 6), true},
		{"what was there at first, read behind its own write", edge(api.GOver, 3, 1, 15, 4), true},
		{"what was there at first, by the one that ends later", edge(api.GOver, 1, 3, 7, 16), true},
		{"written over by one that ends later", edge(api.GOver, 2, 3, 8, 14), true},
		{"written over by one that ends earlier", edge(api.GOver, 3, 2, 13, 11), true},
		{"what is in the middle was written over", edge(api.GOver, 2, 3, 9, 14), true},
		{"its own write was written over", edge(api.GOver, 1, 2, 32, 11), true},
		{"the writer is To", edge(api.GOver, 2, 1, 8, 5), false},
		{"the writer is To, the write another one", edge(api.GOver, 2, 1, 8, 4), false},
		{"the writer ends behind To", edge(api.GOver, 2, 1, 26, 4), false},
		{"a read behind its end, the writer ends ahead of To", edge(api.GOver, 1, 3, 30, 14), true},
		{"the writer was given up", edge(api.GOver, 3, 2, 21, 11), false},
		{"nobody wrote it", edge(api.GOver, 3, 2, 17, 11), false},
		{"another key", edge(api.GOver, 3, 2, 13, 12), false},
		{"another key than what was there at first", edge(api.GOver, 2, 1, 10, 5), false},
		{"its own write over it", edge(api.GOver, 3, 3, 13, 14), false},
		{"its own write over what was there at first", edge(api.GOver, 3, 3, 15, 14), false},
		{"over, From and To are turned", edge(api.GOver, 3, 2, 8, 14), false},
		{"over, the places are turned", edge(api.GOver, 2, 3, 14, 8), false},
		{"over, To was given up", edge(api.GOver, 1, 4, 7, 20), false},
		{"over, From was given up", edge(api.GOver, 4, 2, 19, 11), false},
		{"over, From doesn't end", edge(api.GOver, 5, 2, 28, 11), false},
		{"over, To doesn't end", edge(api.GOver, 2, 5, 8, 27), false},
		{"the writer ends with To", edge(api.GOver, 2, 3, 29, 16), false},

		{"no kind", edge(0, 1, 2, 5, 11), false},
		{"no kind, of a read", edge(0, 1, 2, 5, 8), false},
		{"a kind above", edge(4, 2, 1, 10, 6), false},
		{"a kind below", edge(-1, 1, 2, 5, 11), false},
		{"a kind that goes round", edge(257, 1, 2, 5, 11), false},
		{"the smallest kind", edge(math.MinInt, 1, 2, 5, 11), false},
		{"the greatest kind", edge(math.MaxInt, 1, 2, 5, 11), false},
		{"nothing", api.Edge{}, false},
	} {
		if is := Holds(h, c.e); is != c.want {
			t.Errorf("%s: %t", c.what, is)
		}
	}
	heldAgainstWords(t, h, map[int]int{})
}

// P10.2: places that are none, transactions that are none.
func TestHoldsOfNothing(t *testing.T) {
	h := []api.Event{write(1, "a", "x"), read(2, "a", "x"), commit(1), write(2, "a", "y"), read(1, "a", ""), commit(2)}
	right := []api.Edge{edge(api.GWrite, 1, 2, 0, 3), edge(api.GRead, 1, 2, 0, 1), edge(api.GOver, 1, 2, 4, 3)}
	far := []int{math.MinInt, -1 << 32, -len(h), -1, len(h), len(h) + 1, 1 << 32, math.MaxInt}
	for _, e := range right {
		if !Holds(h, e) {
			t.Errorf("%v doesn't hold", e)
		}
		for _, n := range far {
			for _, wrong := range []api.Edge{
				edge(e.Kind, e.From, e.To, n, e.J), edge(e.Kind, e.From, e.To, e.I, n), edge(e.Kind, e.From, e.To, n, n),
				edge(e.Kind, n, e.To, e.I, e.J), edge(e.Kind, e.From, n, e.I, e.J), edge(e.Kind, n, n, n, n), edge(n, e.From, e.To, e.I, e.J),
			} {
				if Holds(h, wrong) {
					t.Errorf("%v holds", wrong)
				}
			}
		}
		// To is committed by the last event: without that it isn't.
		for _, none := range [][]api.Event{nil, {}, h[:1], h[:len(h)-1]} {
			if Holds(none, e) {
				t.Errorf("%v holds of the first %d", e, len(none))
			}
		}
	}
}

// P10.3: steps of one edge, and of two; other levels have none.
func TestSteps(t *testing.T) {
	w, r, o, other := edge(api.GWrite, 1, 2, 4, 5), edge(api.GRead, 3, 2, 6, 7), edge(api.GOver, 2, 1, 3, 4), edge(api.GOver, 2, 4, 8, 9)
	back := edge(api.GOver, 3, 2, 10, 11)
	odd := edge(0, 5, 3, 0, 0)
	one := func(e api.Edge) api.Step { return api.Step{From: e.From, To: e.To, E: []api.Edge{e}} }
	two := func(e, over api.Edge) api.Step {
		return api.Step{From: e.From, To: over.To, E: []api.Edge{e, over}}
	}
	for _, c := range []struct {
		what  string
		level int
		l     []api.Edge
		want  []api.Step
	}{
		{"none, serial", api.Serial, nil, nil},
		{"none, snapshot", api.Snapshot, nil, nil},
		{"each, in order", api.Serial, []api.Edge{o, w, r, odd, back, w}, []api.Step{one(o), one(w), one(r), one(odd), one(back), one(w)}},
		{"one that writes over, alone", api.Snapshot, []api.Edge{o}, nil},
		{"those that write over, alone", api.Snapshot, []api.Edge{back, o, other}, nil},
		{"a write alone", api.Snapshot, []api.Edge{w}, []api.Step{one(w)}},
		{"a read and a write", api.Snapshot, []api.Edge{r, w}, []api.Step{one(r), one(w)}},
		{"a write, and one over it", api.Snapshot, []api.Edge{w, o}, []api.Step{one(w), two(w, o)}},
		{"the one over it stands ahead", api.Snapshot, []api.Edge{o, w}, []api.Step{one(w), two(w, o)}},
		{"each behind its own", api.Snapshot, []api.Edge{o, w, other, r, back}, []api.Step{one(w), two(w, o), two(w, other), one(r), two(r, o), two(r, other)}},
		{"they are taken in order", api.Snapshot, []api.Edge{other, w, o}, []api.Step{one(w), two(w, other), two(w, o)}},
		{"one of no kind", api.Snapshot, []api.Edge{odd, back, o}, []api.Step{one(odd), two(odd, back)}},
		{"one that is there twice", api.Snapshot, []api.Edge{w, o, w, o}, []api.Step{one(w), two(w, o), two(w, o), one(w), two(w, o), two(w, o)}},
		{"by its To, not its From", api.Snapshot, []api.Edge{edge(api.GWrite, 2, 9, 0, 1), o}, []api.Step{one(edge(api.GWrite, 2, 9, 0, 1))}},
		{"a ring of one", api.Snapshot, []api.Edge{edge(api.GRead, 1, 2, 0, 1), o}, []api.Step{one(edge(api.GRead, 1, 2, 0, 1)), {From: 1, To: 1, E: []api.Edge{edge(api.GRead, 1, 2, 0, 1), o}}}},
	} {
		if l := Steps(c.level, c.l); !sameSteps(l, c.want) {
			t.Errorf("%s: %v, want %v", c.what, l, c.want)
		}
	}
	for _, level := range []int{math.MinInt, -1, 0, 3, 4, 257, 258, 1 << 32, math.MaxInt} {
		if l := Steps(level, []api.Edge{w, o, r}); len(l) != 0 {
			t.Errorf("of the level %d: %v", level, l)
		}
	}
}

// P10.3: the committed ones, rising by their size, each once.
func TestNodes(t *testing.T) {
	for _, c := range []struct {
		what string
		h    []api.Event
		want []int
	}{
		{"none", nil, nil},
		{"rising", []api.Event{begin(10), begin(9), begin(2), commit(10), commit(2), commit(9)}, []int{2, 9, 10}},
		{"given up, and not ended", []api.Event{begin(1), begin(2), begin(3), abort(1), commit(3)}, []int{3}},
		{"the first end tells", []api.Event{abort(1), commit(1), commit(2), abort(2), commit(2)}, []int{2}},
		{"an end alone", []api.Event{commit(7)}, []int{7}},
		{"whatever their numbers", []api.Event{commit(math.MaxInt), commit(0), commit(math.MinInt), commit(-1), commit(33)}, []int{math.MinInt, -1, 0, 33, math.MaxInt}},
		{"without a read or a write", []api.Event{begin(1), commit(1), begin(2), write(2, "a", "x"), commit(2)}, []int{1, 2}},
	} {
		if l := Nodes(c.h); !slices.Equal(l, c.want) {
			t.Errorf("%s: %v, want %v", c.what, l, c.want)
		}
	}
}

// seenOften fails, if a kind of edge was told, or held, too seldom to say anything.
func seenOften(t *testing.T, seen map[int]int) {
	t.Helper()
	for kind := api.GWrite; kind <= api.GOver; kind++ {
		if seen[kind] < 500 || seen[kind+10] < 500 {
			t.Errorf("of the kind %d: %d are told, %d hold", kind, seen[kind], seen[kind+10])
		}
	}
}

// P10.1, P10.2, P10.3: by the document's words, of each short row of reads, writes and ends of two transactions, and of three that end by a commit.
func TestShortRowsByWords(t *testing.T) {
	var events []api.Event
	for txn := 1; txn <= 2; txn++ {
		events = append(events, read(txn, "a", ""), read(txn, "a", "x"), write(txn, "a", "x"), write(txn, "a", "y"), commit(txn), abort(txn))
	}
	seen := map[int]int{}
	rows(events, 4, func(h []api.Event) { heldAgainstWords(t, h, seen) })
	var three []api.Event
	for txn := 1; txn <= 3; txn++ {
		three = append(three, read(txn, "a", ""), read(txn, "a", "x"), write(txn, "a", "x"))
	}
	rows(three, 4, func(h []api.Event) {
		for _, order := range [][]int{{1, 2, 3}, {2, 3, 1}, {3, 2, 1}} {
			heldAgainstWords(t, append(slices.Clone(h), commit(order[0]), commit(order[1]), commit(order[2])), seen)
		}
	})
	seenOften(t, seen)
}

// P10.1, P10.2, P10.3: by the document's words, of any events, also of more than a well formed history may have, and of edges between any transactions.
func TestAnyEventsByWords(t *testing.T) {
	r := rand.New(rand.NewSource(1))
	seen := map[int]int{}
	for range 12000 {
		h := anyHistory(r, r.Intn(26), 1+r.Intn(6))
		heldAgainstWords(t, h, seen)
		for range 50 {
			edgesHeld(t, h, edge(0, r.Intn(8)-1, r.Intn(8)-1, r.Intn(len(h)+3)-1, r.Intn(len(h)+3)-1), seen)
		}
	}
	for _, many := range []int{256, 257} {
		heldAgainstWords(t, anyHistory(r, many, 40), seen)
	}
	seenOften(t, seen)
}

// P10.3: steps by the document's words, of any edges.
func TestAnyEdgesByWords(t *testing.T) {
	r := rand.New(rand.NewSource(2))
	for range 20000 {
		l := make([]api.Edge, r.Intn(12))
		for i := range l {
			l[i] = edge(r.Intn(6)-1, r.Intn(4), r.Intn(4), r.Intn(9)-1, r.Intn(9)-1)
		}
		level := r.Intn(5) - 1
		if got, want := Steps(level, l), plainSteps(level, l); !sameSteps(got, want) {
			t.Fatalf("Steps of %d, %v: %v, want %v", level, l, got, want)
		}
	}
}

// reached are the transactions to which edges lead from one, step by step.
func reached(l []api.Edge, from int) []int {
	there := []int{from}
	for n := 0; n < len(there); n++ {
		for _, e := range l {
			if e.From == there[n] && !slices.Contains(there, e.To) {
				there = append(there, e.To)
			}
		}
	}
	return there
}

// followsHeld holds P10.4 of a history, if it is well formed and nothing in it is tainted, and tells whether it is.
func followsHeld(t *testing.T, h []api.Event, seen map[int]int) bool {
	t.Helper()
	if _, e := history.Formed(h); e != api.OK || len(taint.All(h)) > 0 {
		return false
	}
	all := All(h)
	for _, e := range all {
		seen[e.Kind]++
		if !Holds(h, e) {
			t.Fatalf("%v: %v is told, and doesn't hold", h, e)
		}
	}
	for i, x := range h {
		for j, y := range h {
			for kind := api.GWrite; kind <= api.GOver; kind++ {
				e := edge(kind, x.Txn, y.Txn, i, j)
				if !Holds(h, e) {
					continue
				}
				seen[kind+10]++
				if !slices.Contains(all, e) && !slices.Contains(reached(all, e.From), e.To) {
					t.Fatalf("%v: %v holds, and doesn't follow from %v", h, e, all)
				}
			}
		}
	}
	return true
}

// P10.4: each edge that is told holds; what holds is told, or follows.
func TestWellFormed(t *testing.T) {
	var events []api.Event
	for txn := 1; txn <= 3; txn++ {
		events = append(events, read(txn, "a", ""), read(txn, "a", "x"), write(txn, "a", "x"), write(txn, "a", "y"))
	}
	seen, sound := map[int]int{}, 0
	rows(events, 4, func(middle []api.Event) {
		for _, ends := range [][]api.Event{{commit(1), commit(2), commit(3)}, {commit(3), commit(1), commit(2)}, {commit(2), abort(3), commit(1)}} {
			if followsHeld(t, slices.Concat([]api.Event{begin(1), begin(2), begin(3)}, middle, ends), seen) {
				sound++
			}
		}
	})
	if sound < 1000 {
		t.Errorf("%d are well formed and sound", sound)
	}
	seenOften(t, seen)
}

// soundHistory is well formed, and its reads see no more than what stands ahead and was committed there, or their own.
func soundHistory(r *rand.Rand, txns int) []api.Event {
	var h []api.Event
	for txn := 1; txn <= txns; txn++ {
		h = append(h, begin(txn))
	}
	open := r.Perm(txns)
	for n := 0; len(open) > 0 && len(h) < 60; n++ {
		txn, key := open[r.Intn(len(open))]+1, []string{"a", "b"}[r.Intn(2)]
		seen := []string{""}
		for _, place := range plainVersions(h, key) {
			seen = append(seen, h[place].Val)
		}
		if own := plainLast(h, txn, key, len(h)); own >= 0 {
			seen = []string{h[own].Val}
		}
		switch r.Intn(7) {
		case 0, 1, 2:
			h = append(h, read(txn, key, seen[r.Intn(len(seen))]))
		case 3, 4, 5:
			h = append(h, write(txn, key, string(rune('a'+n))))
		case 6:
			h = append(h, []api.Event{commit(txn), commit(txn), commit(txn), abort(txn)}[r.Intn(4)])
			open = slices.DeleteFunc(open, func(x int) bool { return x == txn-1 })
		}
	}
	for _, x := range open {
		h = append(h, commit(x+1))
	}
	return h
}

// P10.4, of longer histories of more transactions and two keys.
func TestLongerWellFormed(t *testing.T) {
	r := rand.New(rand.NewSource(3))
	seen := map[int]int{}
	for n := range 1500 {
		if h := soundHistory(r, 1+r.Intn(8)); !followsHeld(t, h, seen) {
			t.Fatalf("%d: %v isn't well formed and sound", n, h)
		}
	}
	seenOften(t, seen)
}

// R3, R4: what is handed in stays as it was, what stands behind it isn't read, what comes out is new, and no call remembers another one.
func TestNothingIsKept(t *testing.T) {
	r := rand.New(rand.NewSource(4))
	h, other := soundHistory(r, 8), anyHistory(r, 60, 5)
	before := slices.Clone(h)
	behind := append(slices.Clone(h), begin(9), read(9, "a", ""), write(9, "a", "new"), commit(9))
	all, nodes := All(behind[:len(h)]), Nodes(behind[:len(h)])
	if len(all) < 5 || len(nodes) < 2 || !slices.Equal(all, All(h)) || !slices.Equal(nodes, Nodes(h)) {
		t.Errorf("%v, %v: what stands behind a history is read", all, nodes)
	}
	if !slices.Equal(behind[:len(h)], h) || behind[len(h)] != begin(9) || behind[len(h)+3] != commit(9) {
		t.Error("the history, or what stands behind it, is written into")
	}
	heldAgainstWords(t, other, map[int]int{})
	for i := range all {
		all[i] = edge(-9, -9, -9, -9, -9)
	}
	for i := range nodes {
		nodes[i] = -9
	}
	heldAgainstWords(t, h, map[int]int{})
	if !slices.Equal(h, before) {
		t.Error("the history is written into")
	}
}

// LANGUAGE 7, R3: no two lists of the steps share memory, and none shares any with the edges that were handed in.
func TestStepsAreNew(t *testing.T) {
	l := []api.Edge{edge(api.GWrite, 1, 2, 4, 5), edge(api.GOver, 2, 1, 3, 4), edge(api.GOver, 2, 3, 8, 9), edge(api.GRead, 3, 2, 6, 7)}
	for _, level := range []int{api.Serial, api.Snapshot} {
		given := append(make([]api.Edge, 0, 16), l...)
		steps, want := Steps(level, given), plainSteps(level, l)
		for n := range steps {
			steps[n].E = append(steps[n].E, edge(-8, -8, -8, -8, -8))
			for i := range steps[n].E {
				steps[n].E[i].Kind = -9
			}
			if !slices.Equal(given, l) || given[:cap(given)][len(l)] != (api.Edge{}) {
				t.Fatalf("of the level %d, %d: what was handed in is written into", level, n)
			}
			if !sameSteps(steps[n+1:], want[n+1:]) {
				t.Fatalf("of the level %d, %d: a step behind it is written into", level, n)
			}
		}
		if !sameSteps(Steps(level, given), want) {
			t.Errorf("of the level %d: a call remembers another one", level)
		}
	}
}
