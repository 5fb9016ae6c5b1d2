package check

import (
	"fmt"
	"math"
	"math/rand"
	"slices"
	"testing"

	"cartouche/api"
	"cartouche/edges"
	"cartouche/history"
	"cartouche/judge"
	"cartouche/taint"
)

var levels = []int{api.Serial, api.Snapshot}

// noLevels are numbers of no level.
var noLevels = []int{math.MinInt, -2, -1, 0, 3, 4, 257, 258, 1<<32 + 1, 1<<32 + 2, math.MaxInt}

func begin(txn int) api.Event  { return api.Event{Kind: api.EBegin, Txn: txn} }
func commit(txn int) api.Event { return api.Event{Kind: api.ECommit, Txn: txn} }
func abort(txn int) api.Event  { return api.Event{Kind: api.EAbort, Txn: txn} }

func read(txn int, key, val string) api.Event {
	return api.Event{Kind: api.ERead, Txn: txn, Key: key, Val: val}
}

func write(txn int, key, val string) api.Event {
	return api.Event{Kind: api.EWrite, Txn: txn, Key: key, Val: val}
}

func edge(kind, from, to, i, j int) api.Edge {
	return api.Edge{Kind: kind, From: from, To: to, I: i, J: j}
}

// accepted, tainted and round are the three kinds of verdicts.
func accepted(level int, order ...int) api.Verdict {
	return api.Verdict{Level: level, Accept: true, Order: order}
}

func tainted(level, kind, i, j int) api.Verdict {
	return api.Verdict{Level: level, Bad: api.Bad{Kind: kind, I: i, J: j}}
}

func round(level int, l ...api.Edge) api.Verdict {
	return api.Verdict{Level: level, Ring: l}
}

// plainAhead is P13.1 by its words: it counts each number, and looks for From and To one by one.
func plainAhead(h []api.Event, level int, order []int) bool {
	many := map[int]int{}
	for _, n := range order {
		many[n]++
	}
	for _, n := range edges.Nodes(h) {
		if many[n] != 1 {
			return false
		}
		delete(many, n)
	}
	if len(many) > 0 {
		return false
	}
	for _, s := range edges.Steps(level, edges.All(h)) {
		from := slices.Index(order, s.From)
		if from < 0 || !slices.Contains(order[from+1:], s.To) {
			return false
		}
	}
	return true
}

// plainRound is P13.1 by its words: the ring is laid out with its first edge once more behind it.
func plainRound(h []api.Event, level int, l []api.Edge) bool {
	if len(l) == 0 {
		return false
	}
	out := append(slices.Clone(l), l[0])
	for i, e := range l {
		behind := out[i+1]
		if !edges.Holds(h, e) || behind.From != e.To {
			return false
		}
		if level == 2 && e.Kind == 3 && behind.Kind == 3 {
			return false
		}
	}
	return true
}

// plainCheck is P13.2 by its words.
func plainCheck(h []api.Event, v api.Verdict) api.Errno {
	if v.Level < 1 || v.Level > 2 {
		return api.ErrArg
	}
	if _, e := history.Formed(h); e != api.OK {
		return e
	}
	if v.Accept {
		if v.Bad.Kind != 0 {
			return api.ErrProof
		}
		if len(v.Ring) != 0 {
			return api.ErrProof
		}
		if len(taint.All(h)) != 0 {
			return api.ErrProof
		}
		if !plainAhead(h, v.Level, v.Order) {
			return api.ErrProof
		}
		return api.OK
	}
	if len(v.Order) != 0 {
		return api.ErrProof
	}
	if v.Bad.Kind != 0 {
		if len(v.Ring) != 0 {
			return api.ErrProof
		}
		if at := taint.At(h, v.Bad.I); at.Kind != v.Bad.Kind || at.I != v.Bad.I || at.J != v.Bad.J {
			return api.ErrProof
		}
		return api.OK
	}
	if !plainRound(h, v.Level, v.Ring) {
		return api.ErrProof
	}
	return api.OK
}

// good: is a well formed history good at a level (chapter 12's words), with no step that leads on to where it began?
func good(h []api.Event, level int) bool {
	if len(taint.All(h)) > 0 {
		return false
	}
	leads := map[[2]int]bool{}
	for _, s := range edges.Steps(level, edges.All(h)) {
		leads[[2]int{s.From, s.To}] = true
	}
	nodes := edges.Nodes(h)
	for _, over := range nodes {
		for _, from := range nodes {
			for _, to := range nodes {
				if leads[[2]int{from, over}] && leads[[2]int{over, to}] {
					leads[[2]int{from, to}] = true
				}
			}
		}
	}
	return !slices.ContainsFunc(nodes, func(n int) bool { return leads[[2]int{n, n}] })
}

// seen counts, level by level, what the tests went through, so that none of them says nothing: verdicts that are taken, of each kind, and those that are not.
type seen struct {
	accepted, tainted, round, refused [3]int
	errors                            map[api.Errno]int
}

func (s *seen) add(v api.Verdict, e api.Errno) {
	if s.errors == nil {
		s.errors = map[api.Errno]int{}
	}
	s.errors[e]++
	switch {
	case e == api.ErrProof:
		s.refused[v.Level]++
	case e != api.OK:
	case v.Accept:
		s.accepted[v.Level]++
	case v.Bad.Kind != api.BNone:
		s.tainted[v.Level]++
	default:
		s.round[v.Level]++
	}
}

func (s *seen) often(t *testing.T, least int) {
	t.Helper()
	for _, level := range levels {
		for _, n := range []int{s.accepted[level], s.tainted[level], s.round[level], s.refused[level]} {
			if n < least {
				t.Errorf("too seldom: %+v", s)
				return
			}
		}
	}
}

// held holds all calls with a history and a verdict against the document's words, and what is taken against what is so (P13.3).
func held(t *testing.T, h []api.Event, v api.Verdict, s *seen) api.Errno {
	t.Helper()
	e := Check(h, v)
	if want := plainCheck(h, v); e != want {
		t.Fatalf("Check of %v, %+v: %d, want %d", h, v, e, want)
	}
	if is, want := Ahead(h, v.Level, v.Order), plainAhead(h, v.Level, v.Order); is != want {
		t.Fatalf("Ahead of %v, %d, %v: %t", h, v.Level, v.Order, is)
	}
	if is, want := Round(h, v.Level, v.Ring), plainRound(h, v.Level, v.Ring); is != want {
		t.Fatalf("Round of %v, %d, %v: %t", h, v.Level, v.Ring, is)
	}
	if e == api.OK && v.Accept != good(h, v.Level) {
		t.Fatalf("of %v %+v is taken, and isn't so", h, v)
	}
	s.add(v, e)
	return e
}

// skew are two that read a and b, and write one each, and a third one that did nothing.
func skew() []api.Event {
	return []api.Event{
		0: begin(1), 1: begin(2), 2: read(1, "a", ""), 3: read(1, "b", ""), 4: read(2, "a", ""), 5: read(2, "b", ""),
		6: write(1, "a", "x"), 7: write(2, "b", "y"), 8: commit(1), 9: commit(2), 10: begin(5), 11: commit(5), 12: begin(6), 13: abort(6),
	}
}

// lost are two that read a, and then write it.
func lost() []api.Event {
	return []api.Event{begin(1), begin(2), read(1, "a", ""), read(2, "a", ""), write(1, "a", "x"), write(2, "a", "y"), commit(1), commit(2)}
}

// P13.1: orders.
func TestAhead(t *testing.T) {
	row := []api.Event{
		begin(3), write(3, "a", "x"), commit(3), begin(9), begin(1), read(1, "a", "x"), write(1, "a", "y"), commit(1), abort(9), begin(2), read(2, "a", "x"), commit(2),
	}
	for _, c := range []struct {
		what                 string
		h                    []api.Event
		order                []int
		asSerial, asSnapshot bool
	}{
		{"nobody", nil, nil, true, true},
		{"nobody, and a list", nil, []int{}, true, true},
		{"one too many of nobody", nil, []int{0}, false, false},
		{"all are given up", []api.Event{begin(1), abort(1)}, nil, true, true},
		{"one that was given up", []api.Event{begin(1), abort(1)}, []int{1}, false, false},
		{"one that doesn't end", []api.Event{begin(1)}, []int{1}, false, false},
		{"one", []api.Event{begin(1), commit(1)}, []int{1}, true, true},
		{"one is missing", []api.Event{begin(1), commit(1)}, nil, false, false},
		{"one twice", []api.Event{begin(1), commit(1)}, []int{1, 1}, false, false},
		{"another one", []api.Event{begin(1), commit(1)}, []int{2}, false, false},

		{"a write, a read of it, what was written over", row, []int{3, 2, 1}, true, true},
		{"what was written over is turned", row, []int{3, 1, 2}, false, true},
		{"the read is turned", row, []int{2, 3, 1}, false, false},
		{"the write is turned", row, []int{1, 3, 2}, false, false},
		{"the first one is missing", row, []int{2, 1}, false, false},
		{"the last one is missing", row, []int{3, 2}, false, false},
		{"one twice, none is missing", row, []int{3, 2, 1, 1}, false, false},
		{"one twice, one is missing", row, []int{3, 2, 2}, false, false},
		{"one twice, one is missing, all forward", row, []int{3, 3, 1}, false, false},
		{"with the one that was given up", row, []int{3, 2, 1, 9}, false, false},
		{"with it in another one's place", row, []int{3, 2, 9}, false, false},
		{"with numbers of nobody", row, []int{3, 2, 1, 0}, false, false},
		{"with numbers of nobody ahead", row, []int{math.MinInt, 3, 2, 1}, false, false},
		{"with numbers of nobody alone", row, []int{-3, -2, -1}, false, false},

		{"two that wrote over what the other one read", skew(), []int{1, 2, 5}, false, true},
		{"the same, the other way round", skew(), []int{5, 2, 1}, false, true},
		{"the same, without the one that did nothing", skew(), []int{1, 2}, false, false},
		{"a ring", lost(), []int{1, 2}, false, false},
		{"a ring, the other way round", lost(), []int{2, 1}, false, false},

		{"over one by one that ends later", []api.Event{begin(1), begin(2), read(2, "a", ""), write(1, "a", "x"), commit(1), commit(2)}, []int{2, 1}, true, true},
		{"the same is turned", []api.Event{begin(1), begin(2), read(2, "a", ""), write(1, "a", "x"), commit(1), commit(2)}, []int{1, 2}, false, true},
		{"tainted, and nothing goes back", []api.Event{begin(1), write(1, "a", "x"), read(1, "a", ""), commit(1)}, []int{1}, true, true},
		{"not well formed", []api.Event{write(7, "a", "x"), commit(7), read(-4, "a", "x"), commit(-4)}, []int{7, -4}, true, true},
		{"not well formed, and turned", []api.Event{write(7, "a", "x"), commit(7), read(-4, "a", "x"), commit(-4)}, []int{-4, 7}, false, false},
	} {
		for _, level := range levels {
			want := c.asSerial
			if level == api.Snapshot {
				want = c.asSnapshot
			}
			if is := Ahead(c.h, level, c.order); is != want {
				t.Errorf("%s at %d: %t", c.what, level, is)
			}
			held(t, c.h, accepted(level, c.order...), &seen{})
		}
	}
}

// P13.1: a step of two edges of a snapshot that goes back, though each edge's ends stand the right way, or aren't asked.
func TestAheadOfTwoEdges(t *testing.T) {
	// 2 saw what 1 wrote, and what was there ahead of 3.
	h := []api.Event{begin(1), write(1, "a", "x"), commit(1), begin(2), read(2, "a", "x"), read(2, "b", ""), begin(3), write(3, "b", "y"), commit(3), commit(2)}
	for _, c := range []struct {
		order                []int
		asSerial, asSnapshot bool
	}{
		{[]int{1, 2, 3}, true, true},
		{[]int{1, 3, 2}, false, true},
		{[]int{3, 1, 2}, false, false},
		{[]int{2, 1, 3}, false, false},
		{[]int{2, 3, 1}, false, false},
		{[]int{3, 2, 1}, false, false},
	} {
		if is := Ahead(h, api.Serial, c.order); is != c.asSerial {
			t.Errorf("%v at 1: %t", c.order, is)
		}
		if is := Ahead(h, api.Snapshot, c.order); is != c.asSnapshot {
			t.Errorf("%v at 2: %t", c.order, is)
		}
	}
}

// P13.1: at a number of no level there are no steps, so that nothing goes back; a ring is one there, as where two GOver may stand together.
func TestNoLevel(t *testing.T) {
	h := skew()
	over := []api.Edge{edge(api.GOver, 1, 2, 3, 7), edge(api.GOver, 2, 1, 4, 6)}
	for _, level := range noLevels {
		if !Ahead(h, level, []int{1, 2, 5}) || !Ahead(lost(), level, []int{2, 1}) || Ahead(h, level, []int{1, 2}) || Ahead(h, level, []int{1, 2, 2}) || !Ahead(nil, level, nil) {
			t.Errorf("Ahead at %d", level)
		}
		if !Round(h, level, over) || Round(h, level, over[:1]) || Round(h, level, nil) {
			t.Errorf("Round at %d", level)
		}
		if e := Check(h, accepted(level, 1, 2, 5)); e != api.ErrArg {
			t.Errorf("Check at %d: %d", level, e)
		}
		if e := Check(h, round(level, over...)); e != api.ErrArg {
			t.Errorf("Check at %d: %d", level, e)
		}
	}
}

// P13.1: rings.
func TestRound(t *testing.T) {
	h := []api.Event{
		0: begin(1), 1: begin(2), 2: begin(3), 3: begin(4),
		4: read(1, "a", ""), 5: write(2, "a", "x"), 6: read(2, "b", ""), 7: write(1, "b", "y"), 8: write(3, "a", "z"), 9: read(3, "b", "y"), 10: write(1, "a", "u"),
		11: read(1, "c", ""), 12: write(3, "c", "v"), 13: read(3, "d", ""), 14: write(1, "d", "w"), 15: write(4, "a", "g"), 16: read(4, "b", ""),
		17: commit(2), 18: commit(3), 19: abort(4), 20: commit(1),
	}
	over12, over21 := edge(api.GOver, 1, 2, 4, 5), edge(api.GOver, 2, 1, 6, 7)
	write21, write23, write31 := edge(api.GWrite, 2, 1, 5, 10), edge(api.GWrite, 2, 3, 5, 8), edge(api.GWrite, 3, 1, 8, 10)
	read13 := edge(api.GRead, 1, 3, 7, 9)
	over13, over31 := edge(api.GOver, 1, 3, 11, 12), edge(api.GOver, 3, 1, 13, 14)
	changed := func(e api.Edge, change func(e *api.Edge)) api.Edge {
		change(&e)
		return e
	}
	for _, c := range []struct {
		what                 string
		l                    []api.Edge
		asSerial, asSnapshot bool
	}{
		{"no edge", nil, false, false},
		{"no edge, and a list", []api.Edge{}, false, false},
		{"one edge alone", []api.Edge{write21}, false, false},
		{"one GOver alone", []api.Edge{over12}, false, false},
		{"one edge to itself", []api.Edge{edge(api.GWrite, 1, 1, 7, 10)}, false, false},
		{"one GOver to itself", []api.Edge{edge(api.GOver, 1, 1, 4, 10)}, false, false},
		{"an edge of nothing", []api.Edge{{}}, false, false},

		{"GOver, GWrite", []api.Edge{over12, write21}, true, true},
		{"GWrite, GOver", []api.Edge{write21, over12}, true, true},
		{"two GOver", []api.Edge{over12, over21}, true, false},
		{"two GOver, the other one first", []api.Edge{over21, over12}, true, false},
		{"two of other kinds", []api.Edge{read13, write31}, true, true},
		{"GRead, GOver", []api.Edge{read13, over31}, true, true},
		{"three, one of them GOver", []api.Edge{over12, write23, write31}, true, true},
		{"three, the last one GOver", []api.Edge{write23, write31, over12}, true, true},
		{"three, the first two GOver", []api.Edge{over31, over12, write23}, true, false},
		{"three, the last two GOver", []api.Edge{write23, over31, over12}, true, false},
		{"three, the last one and the first one GOver", []api.Edge{over12, write23, over31}, true, false},
		{"four, GOver by turns", []api.Edge{over12, write21, over13, write31}, true, true},
		{"four, GOver by turns, the other ones first", []api.Edge{write21, over13, write31, over12}, true, true},
		{"four, two GOver in the middle", []api.Edge{write21, over13, over31, over12}, true, false},
		{"a ring gone round twice", []api.Edge{over12, write21, over12, write21}, true, true},

		{"not closed at the end", []api.Edge{over12, write23}, false, false},
		{"not closed in the middle", []api.Edge{over12, read13, write31, write21}, false, false},
		{"the same edge twice", []api.Edge{over12, over12}, false, false},
		{"the same edge twice, in a ring", []api.Edge{over12, write21, write21}, false, false},
		{"turned", []api.Edge{write31, write23, over12}, false, false},
		{"a ring, and more", []api.Edge{over12, write21, read13}, false, false},

		{"the first one doesn't hold", []api.Edge{edge(api.GWrite, 1, 2, 10, 5), write21}, false, false},
		{"the last one doesn't hold", []api.Edge{over12, edge(api.GRead, 2, 1, 5, 4)}, false, false},
		{"one in the middle doesn't hold", []api.Edge{over12, changed(write23, func(e *api.Edge) { e.J = 12 }), write31}, false, false},
		{"another kind", []api.Edge{over12, changed(write21, func(e *api.Edge) { e.Kind = 4 })}, false, false},
		{"no kind", []api.Edge{changed(over12, func(e *api.Edge) { e.Kind = 0 }), write21}, false, false},
		{"a place below", []api.Edge{changed(over12, func(e *api.Edge) { e.I = -1 }), write21}, false, false},
		{"a place behind", []api.Edge{over12, changed(write21, func(e *api.Edge) { e.J = len(h) })}, false, false},
		{"any places", []api.Edge{changed(over12, func(e *api.Edge) { e.I, e.J = math.MinInt, math.MaxInt }), write21}, false, false},
		{"another From and To, and closed", []api.Edge{changed(over12, func(e *api.Edge) { e.From = 3 }), changed(write21, func(e *api.Edge) { e.To = 3 })}, false, false},
		{"of one that was given up", []api.Edge{edge(api.GWrite, 1, 4, 10, 15), edge(api.GOver, 4, 1, 16, 7)}, false, false},
	} {
		for _, level := range levels {
			want := c.asSerial
			if level == api.Snapshot {
				want = c.asSnapshot
			}
			if is := Round(h, level, c.l); is != want {
				t.Errorf("%s at %d: %t", c.what, level, is)
			}
			wantE := api.ErrProof
			if want {
				wantE = api.OK
			}
			if e := held(t, h, round(level, c.l...), &seen{}); e != wantE {
				t.Errorf("Check of %s at %d: %d", c.what, level, e)
			}
		}
	}
	// Edges of a history that isn't well formed: no call but Check asks for that.
	torn := []api.Event{write(-1, "a", "x"), read(40, "a", "x"), write(40, "b", "y"), read(-1, "b", "y"), commit(40), commit(-1)}
	l := []api.Edge{edge(api.GRead, -1, 40, 0, 1), edge(api.GRead, 40, -1, 2, 3)}
	for _, level := range levels {
		if !Round(torn, level, l) || Round(torn[:5], level, l) {
			t.Errorf("of what isn't well formed at %d", level)
		}
		if e := held(t, torn, round(level, l...), &seen{}); e != api.ErrArg {
			t.Errorf("Check of what isn't well formed: %d", e)
		}
	}
}

// P13.2: each of what a verdict must and must not have.
func TestCheck(t *testing.T) {
	straight := []api.Event{begin(1), write(1, "a", "x"), commit(1), begin(2), read(2, "a", "x"), commit(2)}
	dirty := []api.Event{0: begin(1), 1: begin(2), 2: write(1, "a", "x"), 3: read(2, "a", "x"), 4: abort(1), 5: write(2, "b", "y"), 6: read(2, "b", ""), 7: commit(2), 8: begin(3), 9: write(3, "b", "z"), 10: commit(3)}
	ringed := []api.Edge{edge(api.GWrite, 1, 2, 4, 5), edge(api.GOver, 2, 1, 3, 4)}
	read6 := append(slices.Clone(lost()[:6]), read(2, "a", "x"), commit(1), commit(2))
	dead := api.Bad{Kind: api.BAbort, I: 3, J: 2}
	for _, c := range []struct {
		what string
		h    []api.Event
		v    api.Verdict
		want api.Errno
	}{
		{"accepted", straight, accepted(0, 1, 2), api.OK},
		{"accepted, of no event", nil, accepted(0), api.OK},
		{"accepted, and its order goes back", straight, accepted(0, 2, 1), api.ErrProof},
		{"accepted, and it has no order", straight, accepted(0), api.ErrProof},
		{"accepted, and Bad has a kind", straight, api.Verdict{Accept: true, Order: []int{1, 2}, Bad: api.Bad{Kind: api.BOwn, I: 4, J: 1}}, api.ErrProof},
		{"accepted, and Bad has a kind alone", straight, api.Verdict{Accept: true, Order: []int{1, 2}, Bad: api.Bad{Kind: api.BLater}}, api.ErrProof},
		{"accepted, and Bad has a kind below", straight, api.Verdict{Accept: true, Order: []int{1, 2}, Bad: api.Bad{Kind: -1}}, api.ErrProof},
		{"accepted, and Bad has a kind that there isn't", straight, api.Verdict{Accept: true, Order: []int{1, 2}, Bad: api.Bad{Kind: math.MaxInt}}, api.ErrProof},
		{"accepted, and Bad has places and no kind", straight, api.Verdict{Accept: true, Order: []int{1, 2}, Bad: api.Bad{I: 4, J: -9}}, api.OK},
		{"accepted, and it has a ring", straight, api.Verdict{Accept: true, Order: []int{1, 2}, Ring: []api.Edge{edge(api.GRead, 1, 2, 1, 4)}}, api.ErrProof},
		{"accepted, and it has a ring of nothing", straight, api.Verdict{Accept: true, Order: []int{1, 2}, Ring: []api.Edge{{}}}, api.ErrProof},
		{"accepted, and its ring has no edge", straight, api.Verdict{Accept: true, Order: []int{1, 2}, Ring: []api.Edge{}}, api.OK},
		{"accepted, and something is tainted", dirty, accepted(0, 2, 3), api.ErrProof},
		{"accepted, and something is tainted, with that taint", dirty, api.Verdict{Accept: true, Order: []int{2, 3}, Bad: dead}, api.ErrProof},
		{"accepted, and there is a ring", lost(), accepted(0, 1, 2), api.ErrProof},
		{"accepted, with the ring that is there", lost(), api.Verdict{Accept: true, Ring: ringed}, api.ErrProof},

		{"a taint", dirty, tainted(0, api.BAbort, 3, 2), api.OK},
		{"the second taint", dirty, tainted(0, api.BOwn, 6, 5), api.OK},
		{"another kind of taint", dirty, tainted(0, api.BMiddle, 3, 2), api.ErrProof},
		{"a kind of taint that there isn't", dirty, tainted(0, 5, 3, 2), api.ErrProof},
		{"a kind of taint below", dirty, tainted(0, -1, 3, 2), api.ErrProof},
		{"another read", dirty, tainted(0, api.BAbort, 6, 2), api.ErrProof},
		{"another write", dirty, tainted(0, api.BAbort, 3, 5), api.ErrProof},
		{"no read there", dirty, tainted(0, api.BAbort, 2, 2), api.ErrProof},
		{"no place", dirty, tainted(0, api.BAbort, -1, 2), api.ErrProof},
		{"no place behind", dirty, tainted(0, api.BAbort, len(dirty), 2), api.ErrProof},
		{"any places", dirty, tainted(0, api.BAbort, math.MinInt, math.MaxInt), api.ErrProof},
		{"a taint of what is sound", straight, tainted(0, api.BAbort, 4, 1), api.ErrProof},
		{"a taint, and it has an order", dirty, api.Verdict{Order: []int{2, 3}, Bad: dead}, api.ErrProof},
		{"a taint, and its order has no number", dirty, api.Verdict{Order: []int{}, Bad: dead, Ring: []api.Edge{}}, api.OK},
		{"a taint, and it has an edge", dirty, api.Verdict{Bad: dead, Ring: []api.Edge{{}}}, api.ErrProof},
		{"a taint, and a ring that is so", read6, api.Verdict{Bad: api.Bad{Kind: api.BOwn, I: 6, J: 5}, Ring: ringed}, api.ErrProof},
		{"that taint alone", read6, tainted(0, api.BOwn, 6, 5), api.OK},
		{"that ring alone, though something is tainted", read6, round(0, ringed...), api.OK},
		{"a taint that isn't so, and a ring that is", read6, api.Verdict{Bad: api.Bad{Kind: api.BOwn, I: 6, J: 4}, Ring: ringed}, api.ErrProof},

		{"a ring", lost(), round(0, ringed...), api.OK},
		{"a ring that is turned", lost(), round(0, ringed[1], ringed[0]), api.OK},
		{"half a ring", lost(), round(0, ringed[0]), api.ErrProof},
		{"no ring", lost(), round(0), api.ErrProof},
		{"a ring, and it has an order", lost(), api.Verdict{Order: []int{1, 2}, Ring: ringed}, api.ErrProof},
		{"a ring, and it has an order of nobody", lost(), api.Verdict{Order: []int{0}, Ring: ringed}, api.ErrProof},
		{"a ring, and Bad has a kind", lost(), api.Verdict{Bad: api.Bad{Kind: api.BAbort}, Ring: ringed}, api.ErrProof},
		{"a ring, and Bad has places and no kind", lost(), api.Verdict{Bad: api.Bad{I: -1, J: 99}, Ring: ringed}, api.OK},
		{"a ring of another history", straight, round(0, ringed...), api.ErrProof},
		{"nothing at all", straight, api.Verdict{}, api.ErrProof},
		{"nothing at all, of no event", nil, api.Verdict{}, api.ErrProof},
		{"nothing at all, where something is tainted", dirty, api.Verdict{}, api.ErrProof},
	} {
		for _, level := range levels {
			c.v.Level = level
			if e := held(t, c.h, c.v, &seen{}); e != c.want {
				t.Errorf("%s at %d: %d, want %d", c.what, level, e, c.want)
			}
		}
	}
}

// P13.2: verdicts that hang on the level.
func TestCheckLevels(t *testing.T) {
	over := []api.Edge{edge(api.GOver, 1, 2, 3, 7), edge(api.GOver, 2, 1, 4, 6)}
	for _, c := range []struct {
		what string
		v    api.Verdict
		want api.Errno
	}{
		{"a ring of two GOver as Serial", round(api.Serial, over...), api.OK},
		{"a ring of two GOver as Snapshot", round(api.Snapshot, over...), api.ErrProof},
		{"accepted as Serial", accepted(api.Serial, 1, 2, 5), api.ErrProof},
		{"accepted as Serial, the other way round", accepted(api.Serial, 2, 1, 5), api.ErrProof},
		{"accepted as Snapshot", accepted(api.Snapshot, 1, 2, 5), api.OK},
		{"accepted as Snapshot, the other way round", accepted(api.Snapshot, 5, 2, 1), api.OK},
		{"accepted as Snapshot, one is missing", accepted(api.Snapshot, 5, 2), api.ErrProof},
		{"accepted as Snapshot, with the one that was given up", accepted(api.Snapshot, 5, 2, 1, 6), api.ErrProof},
	} {
		if e := held(t, skew(), c.v, &seen{}); e != c.want {
			t.Errorf("%s: %d, want %d", c.what, e, c.want)
		}
	}
}

// P13.2, R1: what is refused, and what is refused first.
func TestCheckRefuses(t *testing.T) {
	long := []api.Event{begin(1)}
	for range api.MaxEvents - 1 {
		long = append(long, read(1, "a", ""))
	}
	long = append(long, commit(1))
	cases := []struct {
		what string
		h    []api.Event
		want api.Errno
	}{
		{"too many", long, api.ErrBig},
		{"one of no kind", []api.Event{begin(1), {Kind: 6, Txn: 1}, commit(1)}, api.ErrArg},
		{"one that may not be", []api.Event{begin(33), commit(33)}, api.ErrArg},
		{"begins twice", []api.Event{begin(1), begin(1), commit(1)}, api.ErrThere},
		{"a value twice", []api.Event{begin(1), write(1, "a", "x"), write(1, "b", "x"), commit(1)}, api.ErrThere},
		{"doesn't begin", []api.Event{commit(1)}, api.ErrNone},
		{"nobody's value", []api.Event{begin(1), read(1, "a", "x"), commit(1)}, api.ErrNone},
		{"behind its end", []api.Event{begin(1), commit(1), write(1, "a", "x")}, api.ErrState},
		{"doesn't end", []api.Event{begin(1), begin(2), commit(1)}, api.ErrState},
		{"tainted, and doesn't end", []api.Event{begin(1), write(1, "a", "x"), read(1, "a", ""), commit(1), begin(2)}, api.ErrState},
	}
	verdicts := func(level int) []api.Verdict {
		return []api.Verdict{
			accepted(level, 1), accepted(level), round(level), round(level, edge(api.GOver, 1, 2, 0, 1)), tainted(level, api.BOwn, 2, 1),
			{Level: level, Accept: true, Order: []int{1}, Bad: api.Bad{Kind: 1}, Ring: []api.Edge{{}}}, {Level: level, Order: []int{1}},
		}
	}
	for _, c := range cases {
		for _, level := range levels {
			for _, v := range verdicts(level) {
				if e := Check(c.h, v); e != c.want {
					t.Errorf("%s, %+v: %d, want %d", c.what, v, e, c.want)
				}
			}
		}
		for _, level := range noLevels {
			for _, v := range verdicts(level) {
				if e := Check(c.h, v); e != api.ErrArg {
					t.Errorf("%s, %+v: %d", c.what, v, e)
				}
			}
		}
	}
	for _, level := range levels {
		if e := Check(slices.Delete(slices.Clone(long), 1, 2), accepted(level, 1)); e != api.OK {
			t.Errorf("of as many as there may be: %d", e)
		}
	}
}

// wellFormed has some transactions, one of which in six is given up, over some keys; about one read in so many sees what it should not see.
func wellFormed(r *rand.Rand, txns, most, keys, odd int) []api.Event {
	var h []api.Event
	open := r.Perm(txns)
	for i := range open {
		open[i]++
		h = append(h, begin(open[i]))
	}
	for n := range r.Intn(most + 1) {
		txn, key := open[r.Intn(len(open))], string(rune('a'+r.Intn(keys)))
		h = append(h, []api.Event{read(txn, key, ""), read(txn, key, ""), write(txn, key, fmt.Sprint("v", n))}[r.Intn(3)])
		if len(open) > 1 && r.Intn(2*txns) == 0 {
			h = append(h, end(r, txn))
			open = slices.DeleteFunc(open, func(x int) bool { return x == txn })
		}
	}
	for _, txn := range open {
		h = append(h, end(r, txn))
	}
	for i, x := range h {
		if x.Kind == api.ERead {
			h[i].Val = seenVal(r, h, i, odd)
		}
	}
	return h
}

// skewed has transactions that begin together, read some keys, mostly as they were at first, and write mostly one each: so it is often a snapshot, and not serial.
func skewed(r *rand.Rand, txns int) []api.Event {
	var h, ends []api.Event
	for txn := 1; txn <= txns; txn++ {
		h, ends = append(h, begin(txn)), append(ends, end(r, txn))
	}
	key := func(n int) string { return fmt.Sprint("k", n) }
	for _, n := range r.Perm(3 * txns) {
		txn, own := n/3+1, n/3
		if r.Intn(8) == 0 {
			own = r.Intn(txns)
		}
		h = append(h, []api.Event{read(txn, key(r.Intn(txns)), ""), read(txn, key(r.Intn(txns)), ""), write(txn, key(own), fmt.Sprint("v", n))}[n%3])
	}
	r.Shuffle(len(ends), func(i, j int) { ends[i], ends[j] = ends[j], ends[i] })
	h = append(h, ends...)
	for i, x := range h {
		if x.Kind == api.ERead && (r.Intn(4) == 0 || history.Last(h, x.Txn, x.Key, i) >= 0) {
			h[i].Val = seenVal(r, h, i, 100)
		}
	}
	return h
}

func end(r *rand.Rand, txn int) api.Event {
	if r.Intn(6) == 0 {
		return abort(txn)
	}
	return commit(txn)
}

// seenVal is a value that a read may see: its own last write, else what was there at first or a version of another one; or an odd one.
func seenVal(r *rand.Rand, h []api.Event, i, odd int) string {
	vals := []string{""}
	if r.Intn(odd) == 0 {
		for _, x := range h {
			if x.Kind == api.EWrite && x.Key == h[i].Key {
				vals = append(vals, x.Val)
			}
		}
		return vals[r.Intn(len(vals))]
	}
	if own := history.Last(h, h[i].Txn, h[i].Key, i); own >= 0 {
		return h[own].Val
	}
	for _, place := range history.Versions(h, h[i].Key) {
		if h[place].Txn != h[i].Txn {
			vals = append(vals, h[place].Val)
		}
	}
	return vals[r.Intn(len(vals))]
}

// marred changes one event, leaves one out, or puts one in twice.
func marred(r *rand.Rand, h []api.Event) []api.Event {
	h = slices.Clone(h)
	i := r.Intn(len(h))
	switch r.Intn(5) {
	case 0:
		return slices.Delete(h, i, i+1)
	case 1:
		return slices.Insert(h, i, h[r.Intn(len(h))])
	case 2:
		h[i].Kind = r.Intn(8) - 1
	case 3:
		h[i].Txn = []int{-1, 0, 1, 2, 33, math.MinInt}[r.Intn(6)]
	case 4:
		h[i].Val = []string{"", "v0", "nobody's"}[r.Intn(3)]
	}
	return h
}

// holding are all edges that hold, those that All doesn't tell among them.
func holding(h []api.Event) []api.Edge {
	var l []api.Edge
	for i, x := range h {
		for j, y := range h {
			for kind := api.GWrite; kind <= api.GOver; kind++ {
				if e := edge(kind, x.Txn, y.Txn, i, j); edges.Holds(h, e) {
					l = append(l, e)
				}
			}
		}
	}
	return l
}

// walked goes from edge to edge till it is where it began; nothing, if it gets nowhere.
func walked(r *rand.Rand, l []api.Edge) []api.Edge {
	if len(l) == 0 {
		return nil
	}
	ring := []api.Edge{l[r.Intn(len(l))]}
	for range 12 {
		at := ring[len(ring)-1].To
		for i, e := range ring {
			if e.From == at {
				return ring[i:]
			}
		}
		next := slices.DeleteFunc(slices.Clone(l), func(e api.Edge) bool { return e.From != at })
		if len(next) == 0 {
			return nil
		}
		ring = append(ring, next[r.Intn(len(next))])
	}
	return nil
}

// shuffled are the nodes in any order, or in one that is nearly the one that is given.
func shuffled(r *rand.Rand, h []api.Event, order []int) []int {
	nodes := edges.Nodes(h)
	if len(order) == len(nodes) && r.Intn(2) == 0 {
		nodes = slices.Clone(order)
		if len(nodes) > 1 {
			i := r.Intn(len(nodes) - 1)
			nodes[i], nodes[i+1] = nodes[i+1], nodes[i]
		}
		return nodes
	}
	r.Shuffle(len(nodes), func(i, j int) { nodes[i], nodes[j] = nodes[j], nodes[i] })
	return nodes
}

// forged is a verdict that someone made up, mostly by what is there: nothing of it shares memory with the one that is given.
func forged(r *rand.Rand, h []api.Event, v api.Verdict, all, holds []api.Edge) api.Verdict {
	v.Order, v.Ring = slices.Clone(v.Order), slices.Clone(v.Ring)
	odd := []int{math.MinInt, -1, 0, 1, 2, 3, 4, 5, len(h) - 1, len(h), 33, math.MaxInt}
	switch r.Intn(12) {
	case 0:
		v.Accept = !v.Accept
	case 1:
		v.Level = r.Intn(4)
	case 2, 3:
		v = accepted(v.Level, shuffled(r, h, v.Order)...)
	case 4:
		v.Order = append(v.Order, odd[r.Intn(len(odd))])
	case 5:
		if len(v.Order) > 0 {
			v.Order[r.Intn(len(v.Order))] = odd[r.Intn(len(odd))]
		}
	case 6:
		v = round(v.Level, walked(r, all)...)
	case 7, 8:
		v = round(v.Level, walked(r, holds)...)
	case 9:
		if len(v.Ring) > 0 {
			e := &v.Ring[r.Intn(len(v.Ring))]
			*[]*int{&e.Kind, &e.From, &e.To, &e.I, &e.J}[r.Intn(5)] = odd[r.Intn(len(odd))]
		}
	case 10:
		v = tainted(v.Level, r.Intn(5), r.Intn(len(h)), r.Intn(len(h)))
		if bad := taint.At(h, v.Bad.I); r.Intn(2) == 0 {
			v.Bad = bad
		}
	case 11:
		*[]*int{&v.Bad.Kind, &v.Bad.I, &v.Bad.J}[r.Intn(3)] = odd[r.Intn(len(odd))]
	}
	return v
}

// P13.3: what chapter 12 makes is taken; what someone made up is taken just if it says what is so. P13.1, P13.2: by the document's words.
func TestMadeAndForged(t *testing.T) {
	r := rand.New(rand.NewSource(1))
	s := &seen{}
	beside := 0 // rings that are taken of a history without a taint, with an edge that All doesn't tell
	for n := range 3000 {
		h := wellFormed(r, 1+r.Intn(6), 20, 1+r.Intn(4), 15)
		if n%3 == 0 {
			h = skewed(r, 2+r.Intn(4))
		}
		all, holds := edges.All(h), holding(h)
		for _, level := range levels {
			made, e := judge.Judge(h, level)
			if e != api.OK {
				t.Fatalf("%v: not well formed: %d", h, e)
			}
			if e := held(t, h, made, s); e != api.OK {
				t.Fatalf("of %v %+v is not taken: %d", h, made, e)
			}
			other := made
			other.Accept = !made.Accept
			if e := held(t, h, other, s); e != api.ErrProof {
				t.Fatalf("of %v %+v is not refused: %d", h, other, e)
			}
			for range 12 {
				v := forged(r, h, made, all, holds)
				if r.Intn(4) == 0 {
					v = forged(r, h, v, all, holds)
				}
				outside := func(e api.Edge) bool { return !slices.Contains(all, e) }
				if e := held(t, h, v, s); e == api.OK && len(taint.All(h)) == 0 && slices.ContainsFunc(v.Ring, outside) {
					beside++
				}
			}
		}
	}
	s.often(t, 500)
	if beside < 500 {
		t.Errorf("too seldom: %d", beside)
	}
}

// closing is a ring of some of the edges that may show something at a level: an edge leads on to those that begin where it ends, at Snapshot from a GOver to no other one; nothing, if there is none.
func closing(level int, l []api.Edge) []api.Edge {
	const entered, left = 1, 2
	state := make([]int, len(l))
	var path []api.Edge
	var places []int
	var search func(i int) []api.Edge
	search = func(i int) []api.Edge {
		state[i] = entered
		path, places = append(path, l[i]), append(places, i)
		for j, next := range l {
			if next.From != l[i].To || level == api.Snapshot && l[i].Kind == api.GOver && next.Kind == api.GOver {
				continue
			}
			if state[j] == entered {
				return path[slices.Index(places, j):]
			}
			if state[j] == left {
				continue
			}
			if ring := search(j); ring != nil {
				return ring
			}
		}
		state[i] = left
		path, places = path[:len(path)-1], places[:len(places)-1]
		return nil
	}
	for i := range l {
		if state[i] != 0 {
			continue
		}
		if ring := search(i); ring != nil {
			return ring
		}
	}
	return nil
}

// P13.3: where nothing is tainted, of all edges that hold there is a ring that is taken just if the history isn't good.
func TestRingsOfAllThatHold(t *testing.T) {
	r := rand.New(rand.NewSource(4))
	s := &seen{}
	for n := range 5000 {
		h := wellFormed(r, 1+r.Intn(5), 16, 1+r.Intn(3), 1000)
		if n%3 == 0 {
			h = skewed(r, 2+r.Intn(4))
		}
		if len(taint.All(h)) > 0 {
			continue
		}
		holds := holding(h)
		for _, level := range levels {
			ring := closing(level, holds)
			if is := len(ring) == 0; is != good(h, level) {
				t.Fatalf("of %v at %d: the ring %v", h, level, ring)
			}
			if e := held(t, h, round(level, ring...), s); (e == api.OK) != (len(ring) > 0) {
				t.Fatalf("of %v at %d the ring %v: %d", h, level, ring, e)
			}
		}
	}
	for _, level := range levels {
		if s.round[level] < 500 || s.refused[level] < 500 {
			t.Errorf("too seldom: %+v", s)
		}
	}
}

// P13.1, P13.2: by the document's words, of longer histories, and of such that are not well formed, with verdicts on what they were.
func TestAnyEventsByWords(t *testing.T) {
	r := rand.New(rand.NewSource(2))
	s := &seen{}
	for range 3000 {
		h := wellFormed(r, 1+r.Intn(12), 40, 1+r.Intn(5), 30)
		v, _ := judge.Judge(h, 1+r.Intn(2))
		all := edges.All(h)
		held(t, h, v, s)
		held(t, h, forged(r, h, v, all, all), s)
		m := marred(r, h)
		held(t, m, v, s)
		held(t, m, forged(r, m, v, all, all), s)
	}
	for range 40 {
		h := wellFormed(r, 32, 192, 1+r.Intn(40), 1000)
		for _, level := range levels {
			v, _ := judge.Judge(h, level)
			if e := held(t, h, v, s); e != api.OK {
				t.Fatalf("of %v %+v is not taken: %d", h, v, e)
			}
		}
	}
	s.often(t, 200)
	for _, e := range []api.Errno{api.ErrArg, api.ErrThere, api.ErrNone, api.ErrState} {
		if s.errors[e] < 100 {
			t.Errorf("too seldom: %v", s.errors)
		}
	}
}

// rows calls do with each row of at most so many of the events.
func rows(events []api.Event, most int, do func(h []api.Event)) {
	h := make([]api.Event, 0, most)
	var longer func()
	longer = func() {
		do(h)
		if len(h) == most {
			return
		}
		for _, x := range events {
			h = append(h, x)
			longer()
			h = h[:len(h)-1]
		}
	}
	longer()
}

// shortVerdicts are verdicts on a history of the transactions 1 and 2: all short orders, all taints, and all rings of at most two edges that hold.
func shortVerdicts(h []api.Event, level int) []api.Verdict {
	l := []api.Verdict{round(level)}
	for _, order := range [][]int{nil, {1}, {2}, {1, 2}, {2, 1}, {1, 1}, {1, 2, 2}} {
		l = append(l, accepted(level, order...), api.Verdict{Level: level, Order: order})
	}
	for i, x := range h {
		if x.Kind != api.ERead {
			continue
		}
		for j := range h {
			for kind := api.BAbort; kind <= api.BLater; kind++ {
				l = append(l, tainted(level, kind, i, j))
			}
		}
	}
	for _, e := range holding(h) {
		l = append(l, round(level, e))
		for _, f := range holding(h) {
			l = append(l, round(level, e, f))
		}
	}
	return l
}

// P13.1, P13.2, P13.3: of each well formed history of two transactions with a short row of reads and writes between their beginnings and ends all short verdicts; and if it is good, an order is taken, if it isn't, a taint or a ring.
func TestShortRows(t *testing.T) {
	var events []api.Event
	for txn := 1; txn <= 2; txn++ {
		events = append(events, read(txn, "a", ""), read(txn, "a", "x"), read(txn, "b", ""), write(txn, "a", "x"), write(txn, "a", "y"), write(txn, "b", "z"))
	}
	s := &seen{}
	try := func(h []api.Event) {
		if _, e := history.Formed(h); e != api.OK {
			return
		}
		for _, level := range levels {
			taken := 0
			for _, v := range shortVerdicts(h, level) {
				if held(t, h, v, s) == api.OK {
					taken++
				}
			}
			if taken == 0 {
				t.Fatalf("of %v no verdict is taken at %d", h, level)
			}
		}
	}
	rows(events, 3, func(middle []api.Event) {
		for _, ends := range [][]api.Event{{commit(1), commit(2)}, {commit(2), commit(1)}, {abort(1), commit(2)}} {
			try(slices.Concat([]api.Event{begin(1), begin(2)}, middle, ends))
		}
	})
	// Two that read, and then write, whatever it is: here are the rings.
	for _, a := range events[:3] {
		for _, b := range events[6:9] {
			for _, c := range events[3:6] {
				for _, d := range events[9:] {
					try([]api.Event{begin(1), begin(2), a, b, c, d, commit(1), commit(2)})
					try([]api.Event{begin(1), begin(2), a, c, b, d, commit(2), commit(1)})
				}
			}
		}
	}
	s.often(t, 10)
}

// R1: the longest rings, and an order of all that may be.
func TestManyTransactions(t *testing.T) {
	const many = api.MaxTxn
	name := func(s string, n int) string { return fmt.Sprint(s, (n+many-1)%many+1) }
	var h, ends []api.Event
	for txn := 1; txn <= many; txn++ {
		h, ends = append(h, begin(txn)), append(ends, commit(txn))
	}
	for txn := 1; txn <= many; txn++ {
		h = append(h, read(txn, name("k", txn+1), ""), write(txn, name("k", txn), name("v", txn)))
	}
	h = append(h, ends...)
	var ring []api.Edge
	var order []int
	for txn := 1; txn <= many; txn++ {
		to := txn%many + 1
		ring = append(ring, edge(api.GOver, txn, to, many+2*txn-2, many+2*to-1))
		order = append(order, txn)
	}
	s := &seen{}
	for range many {
		ring, order = append(ring[1:], ring[0]), append(order[1:], order[0])
		for _, c := range []struct {
			v    api.Verdict
			want api.Errno
		}{
			{round(api.Serial, ring...), api.OK},
			{round(api.Serial, append(slices.Clone(ring), ring...)...), api.OK},
			{round(api.Serial, ring[:many-1]...), api.ErrProof},
			{round(api.Serial, ring[1:]...), api.ErrProof},
			{round(api.Snapshot, ring...), api.ErrProof},
			{accepted(api.Snapshot, order...), api.OK},
			{accepted(api.Snapshot, order[1:]...), api.ErrProof},
			{accepted(api.Snapshot, append(slices.Clone(order), order[0])...), api.ErrProof},
			{accepted(api.Serial, order...), api.ErrProof},
		} {
			if e := held(t, h, c.v, s); e != c.want {
				t.Fatalf("%+v: %d, want %d", c.v, e, c.want)
			}
		}
	}
}

// R1: orders and rings that are far longer than there can be transactions.
func TestLong(t *testing.T) {
	h := lost()
	ring := []api.Edge{edge(api.GWrite, 1, 2, 4, 5), edge(api.GOver, 2, 1, 3, 4)}
	order := make([]int, 1<<17)
	var l []api.Edge
	for range 1 << 14 {
		l = append(l, ring...)
	}
	for _, level := range levels {
		if !Round(h, level, l) || Round(h, level, l[1:]) || Check(h, round(level, l...)) != api.OK || Check(h, round(level, l[1:]...)) != api.ErrProof {
			t.Errorf("a long ring at %d", level)
		}
		if Ahead(h, level, order) || Check(h, accepted(level, order...)) != api.ErrProof {
			t.Errorf("a long order at %d", level)
		}
	}
}

// R3, R4: what is handed in stays as it was, what stands behind it isn't read, and no call remembers another one.
func TestNothingIsKept(t *testing.T) {
	r := rand.New(rand.NewSource(3))
	s := &seen{}
	for range 400 {
		h := wellFormed(r, 1+r.Intn(6), 20, 2, 30)
		all := edges.All(h)
		behind := append(slices.Clone(h), begin(32), read(32, "a", ""), write(32, "a", "new"), commit(32))
		before := slices.Clone(behind)
		for _, level := range levels {
			v, _ := judge.Judge(h, level)
			if r.Intn(2) == 0 {
				v = forged(r, h, v, all, all)
			}
			order, ring := append(slices.Clone(v.Order), 32, 1), append(slices.Clone(v.Ring), edge(9, 9, 9, 9, 9), edge(8, 8, 8, 8, 8))
			room := v
			room.Order, room.Ring = order[:len(v.Order)], ring[:len(v.Ring)]
			want := held(t, h, v, s)
			if e := Check(behind[:len(h)], room); e != want {
				t.Fatalf("%v, %+v: %d, and then %d", h, v, want, e)
			}
			if Ahead(behind[:len(h)], level, room.Order) != plainAhead(h, level, v.Order) || Round(behind[:len(h)], level, room.Ring) != plainRound(h, level, v.Ring) {
				t.Fatalf("%v, %+v: what stands behind is read", h, v)
			}
			if !slices.Equal(order, append(slices.Clone(v.Order), 32, 1)) || !slices.Equal(ring, append(slices.Clone(v.Ring), edge(9, 9, 9, 9, 9), edge(8, 8, 8, 8, 8))) {
				t.Fatalf("%v, %+v: the verdict, or what stands behind it, is written into", h, v)
			}
		}
		if !slices.Equal(behind, before) {
			t.Fatalf("%v: the history, or what stands behind it, is written into", h)
		}
	}
	s.often(t, 10)
}
