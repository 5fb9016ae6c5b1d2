package lean

import (
	"fmt"
	"math"
	"slices"
	"testing"

	"cartouche/api"
)

// noEdges are kinds of no edge.
var noEdges = []int{math.MinInt, -1, 0, 4, 5, 257, 258, 259, 1<<32 + 3, math.MaxInt}

// wantEdge holds Edge, by hand and by the words.
func wantEdge(t *testing.T, what string, l []api.Proof, e api.Edge, want bool) {
	t.Helper()
	if is := Edge(l, e); is != want {
		t.Errorf("%s: Edge of %v, %v: %t", what, l, e, is)
	}
	if plainOf(l).edge(e) != want {
		t.Errorf("%s: by the words Edge of %v, %v is %t", what, l, e, !want)
	}
}

// allNeeded: the proofs show that edge, none of another kind, place or transaction, and without any one of them nothing.
func allNeeded(t *testing.T, l []api.Proof, e api.Edge) {
	t.Helper()
	wantEdge(t, "all", l, e, true)
	turned := slices.Clone(l)
	slices.Reverse(turned)
	wantEdge(t, "all, the last one first", turned, e, true)
	changed := func(what string, change func(e *api.Edge)) {
		t.Helper()
		other := e
		change(&other)
		wantEdge(t, what, l, other, other == e)
	}
	for _, kind := range append([]int{api.GWrite, api.GRead, api.GOver}, noEdges...) {
		changed("another kind", func(e *api.Edge) { e.Kind = kind })
	}
	for _, n := range []int{math.MinInt, -1, 0, 1, 2, 3, 4, 5, 6, 7, 33, math.MaxInt} {
		changed("another From", func(e *api.Edge) { e.From = n })
		changed("another To", func(e *api.Edge) { e.To = n })
		changed("another I", func(e *api.Edge) { e.I = n })
		changed("another J", func(e *api.Edge) { e.J = n })
	}
	changed("turned", func(e *api.Edge) { e.From, e.To, e.I, e.J = e.To, e.From, e.J, e.I })
	changed("From and To are turned", func(e *api.Edge) { e.From, e.To = e.To, e.From })
	changed("I and J are turned", func(e *api.Edge) { e.I, e.J = e.J, e.I })
	for n, p := range l {
		wantEdge(t, fmt.Sprint("without the proof ", n), without(l, n), e, false)
		first := func(x api.Event) []api.Proof { return append([]api.Proof{at(p.I, x)}, l...) }
		wantEdge(t, fmt.Sprint("the proof ", n, " twice"), append(slices.Clone(l), p), e, true)
		wantEdge(t, fmt.Sprint("another event at the place of the proof ", n, ", behind it"), append(slices.Clone(l), at(p.I, begins(31))), e, true)
		if p.I == e.I || p.I == e.J {
			wantEdge(t, fmt.Sprint("another event at the place of the proof ", n, ", ahead of it"), first(begins(31)), e, false)
			other := slices.Clone(l)
			other[n].Event.Key = "another key"
			wantEdge(t, fmt.Sprint("another key of the proof ", n), other, e, false)
			other[n] = p
			other[n].Event.Txn = 30
			wantEdge(t, fmt.Sprint("another transaction of the proof ", n), other, e, false)
		}
		if p.Event.Kind == api.ECommit {
			aborted := aborts(p.Event.Txn)
			wantEdge(t, fmt.Sprint("the proof ", n, " behind an end by giving up"), append([]api.Proof{at(999, aborted)}, l...), e, false)
			wantEdge(t, fmt.Sprint("the proof ", n, " ahead of an end by giving up"), append(slices.Clone(l), at(-999, aborted)), e, true)
			for _, below := range []int{-1, math.MinInt} {
				wantEdge(t, fmt.Sprint("the proof ", n, " behind a commit below 0"), append([]api.Proof{at(below, p.Event)}, l...), e, false)
			}
		}
	}
}

// P15.3: writes.
func TestEdgeOfWrites(t *testing.T) {
	x, y := writes(1, "a", "x"), writes(2, "a", "y")
	e := edge(api.GWrite, 1, 2, 1, 2)
	of := func(what string, first, last, from, to api.Proof, want bool) {
		t.Helper()
		wantEdge(t, what, []api.Proof{first, last, from, to}, edge(api.GWrite, 1, 2, first.I, last.I), want)
		wantEdge(t, what+", turned", []api.Proof{to, from, last, first}, edge(api.GWrite, 1, 2, first.I, last.I), want)
	}
	allNeeded(t, []api.Proof{at(1, x), at(2, y), at(3, commits(1)), at(4, commits(2))}, e)
	of("the later write first", at(2, x), at(1, y), at(3, commits(1)), at(4, commits(2)), true)
	of("the first one's commit at 0", at(8, x), at(9, y), at(0, commits(1)), at(1, commits(2)), true)
	of("far away", at(math.MaxInt-2, x), at(math.MinInt, y), at(math.MaxInt-1, commits(1)), at(math.MaxInt, commits(2)), true)
	of("commits turned", at(1, x), at(2, y), at(4, commits(1)), at(3, commits(2)), false)
	of("commits of one place", at(1, x), at(2, y), at(3, commits(1)), at(3, commits(2)), false)
	of("a commit below 0", at(1, x), at(2, y), at(-3, commits(1)), at(4, commits(2)), false)
	of("commits below 0", at(1, x), at(2, y), at(-4, commits(1)), at(-3, commits(2)), false)
	of("the first one is given up", at(1, x), at(2, y), at(3, aborts(1)), at(4, commits(2)), false)
	of("the last one is given up", at(1, x), at(2, y), at(3, commits(1)), at(4, aborts(2)), false)
	of("one value", at(1, x), at(2, writes(2, "a", "x")), at(3, commits(1)), at(4, commits(2)), true)
	of("no values", at(1, writes(1, "a", "")), at(2, writes(2, "a", "")), at(3, commits(1)), at(4, commits(2)), true)
	of("another key", at(1, x), at(2, writes(2, "b", "y")), at(3, commits(1)), at(4, commits(2)), false)
	of("the first one is a read", at(1, reads(1, "a", "x")), at(2, y), at(3, commits(1)), at(4, commits(2)), false)
	of("the last one is a read", at(1, x), at(2, reads(2, "a", "y")), at(3, commits(1)), at(4, commits(2)), false)
	of("both are reads", at(1, reads(1, "a", "x")), at(2, reads(2, "a", "y")), at(3, commits(1)), at(4, commits(2)), false)
	wantEdge(t, "of one transaction", []api.Proof{at(1, x), at(2, writes(1, "a", "y")), at(3, commits(1)), at(4, commits(1))}, edge(api.GWrite, 1, 1, 1, 2), false)
	wantEdge(t, "the second commit", []api.Proof{at(1, x), at(2, y), at(5, commits(1)), at(3, commits(1)), at(4, commits(2))}, e, false)
}

// P15.3: reads of what another one wrote.
func TestEdgeOfReads(t *testing.T) {
	x, y := writes(1, "a", "x"), reads(2, "a", "x")
	allNeeded(t, []api.Proof{at(1, x), at(2, y), at(3, commits(1)), at(4, commits(2))}, edge(api.GRead, 1, 2, 1, 2))
	allNeeded(t, []api.Proof{at(3, x), at(2, commits(2)), at(1, commits(1)), at(0, y)}, edge(api.GRead, 1, 2, 3, 0))
	of := func(what string, x, y api.Event, want bool) {
		t.Helper()
		for _, ends := range [][2]int{{3, 4}, {4, 3}, {3, 3}, {0, 0}} {
			wantEdge(t, what, []api.Proof{at(1, x), at(2, y), at(ends[0], commits(1)), at(ends[1], commits(2))}, edge(api.GRead, 1, 2, 1, 2), want)
		}
	}
	of("what was written", x, y, true)
	of("no value", writes(1, "a", ""), reads(2, "a", ""), true)
	of("another value", writes(1, "a", "z"), y, false)
	of("an empty read", x, reads(2, "a", ""), false)
	of("another key", x, reads(2, "b", "x"), false)
	of("a read first", reads(1, "a", "x"), y, false)
	of("a write then", x, writes(2, "a", "x"), false)
	wantEdge(t, "of one transaction", []api.Proof{at(1, x), at(2, reads(1, "a", "x")), at(3, commits(1))}, edge(api.GRead, 1, 1, 1, 2), false)
	wantEdge(t, "the reader is given up", []api.Proof{at(1, x), at(2, y), at(3, commits(1)), at(4, aborts(2))}, edge(api.GRead, 1, 2, 1, 2), false)
	wantEdge(t, "the writer is given up", []api.Proof{at(1, x), at(2, y), at(3, aborts(1)), at(4, commits(2))}, edge(api.GRead, 1, 2, 1, 2), false)
}

// P15.3: what was read, and written over.
func TestEdgeOfOver(t *testing.T) {
	e := edge(api.GOver, 2, 1, 1, 2)
	first, x, y := reads(2, "a", ""), reads(2, "a", "w"), writes(1, "a", "y")
	allNeeded(t, []api.Proof{at(1, first), at(2, y), at(4, commits(1)), at(5, commits(2))}, e)
	allNeeded(t, []api.Proof{at(1, x), at(2, y), at(4, commits(1)), at(5, commits(2)), at(0, writes(3, "a", "w")), at(3, commits(3))}, e)
	of := func(what string, want bool, more ...api.Proof) {
		t.Helper()
		l := append([]api.Proof{at(1, x), at(2, y), at(14, commits(1)), at(15, commits(2))}, more...)
		wantEdge(t, what, l, e, want)
		wantEdge(t, what+", and nothing was read", append([]api.Proof{at(1, first)}, l...), e, true)
	}
	of("nobody wrote it", false)
	of("nobody wrote it, somebody was committed", false, at(3, commits(3)), at(3, commits(0)))
	of("its writer has no end", false, at(0, writes(3, "a", "w")))
	of("its writer was given up", false, at(0, writes(3, "a", "w")), at(3, aborts(3)))
	of("its writer was given up first", false, at(0, writes(3, "a", "w")), at(3, aborts(3)), at(3, commits(3)))
	of("its writer was committed first", true, at(0, writes(3, "a", "w")), at(3, commits(3)), at(3, aborts(3)))
	of("committed at 0", true, at(0, writes(3, "a", "w")), at(0, commits(3)))
	of("committed below 0", false, at(0, writes(3, "a", "w")), at(-1, commits(3)))
	of("committed right ahead", true, at(0, writes(3, "a", "w")), at(13, commits(3)))
	of("committed where the other one was", false, at(0, writes(3, "a", "w")), at(14, commits(3)))
	of("committed behind", false, at(0, writes(3, "a", "w")), at(16, commits(3)))
	of("written far behind", true, at(99, writes(3, "a", "w")), at(3, commits(3)))
	of("written below 0", true, at(-99, writes(3, "a", "w")), at(3, commits(3)))
	of("another key was written", false, at(0, writes(3, "b", "w")), at(3, commits(3)))
	of("another value was written", false, at(0, writes(3, "a", "v")), at(3, commits(3)))
	of("it was read", false, at(0, reads(3, "a", "w")), at(3, commits(3)))
	of("To's own write", false, at(0, writes(1, "a", "w")))
	of("From's own write", false, at(0, writes(2, "a", "w")))
	of("of the first one of two writers, that has no end", false, at(0, writes(4, "a", "w")), at(0, writes(3, "a", "w")), at(3, commits(3)))
	of("of the first one of two writers, that has one", true, at(0, writes(3, "a", "w")), at(0, writes(4, "a", "w")), at(3, commits(3)))
	for _, c := range []struct {
		what     string
		from, to int
		want     bool
	}{{"ahead", 3, 4, true}, {"at once", 4, 4, false}, {"behind", 5, 4, false}} {
		wantEdge(t, "From's own write, "+c.what, []api.Proof{at(0, writes(2, "a", "w")), at(1, x), at(2, y), at(c.from, commits(2)), at(c.to, commits(1))}, e, c.want)
		wantEdge(t, "nothing was read, "+c.what, []api.Proof{at(1, first), at(2, y), at(c.from, commits(2)), at(c.to, commits(1))}, e, true)
	}
	wantEdge(t, "what it wrote itself was read", []api.Proof{at(1, reads(2, "a", "y")), at(2, y), at(3, commits(1)), at(4, commits(2))}, e, false)
	wantEdge(t, "of one transaction", []api.Proof{at(1, reads(1, "a", "")), at(2, y), at(3, commits(1))}, edge(api.GOver, 1, 1, 1, 2), false)
	wantEdge(t, "a write first", []api.Proof{at(1, writes(2, "a", "")), at(2, y), at(3, commits(1)), at(4, commits(2))}, e, false)
	wantEdge(t, "a read then", []api.Proof{at(1, first), at(2, reads(1, "a", "y")), at(3, commits(1)), at(4, commits(2))}, e, false)
	wantEdge(t, "a write of nothing", []api.Proof{at(1, first), at(2, writes(1, "a", "")), at(3, commits(1)), at(4, commits(2))}, e, true)
	wantEdge(t, "places below 0", []api.Proof{at(-7, first), at(-8, y), at(3, commits(1)), at(4, commits(2))}, edge(api.GOver, 2, 1, -7, -8), true)
}

// P15.3: what isn't there has no transaction, no key, no value: no edge is shown by two events that aren't there.
func TestEdgeOfNothing(t *testing.T) {
	for _, kind := range append([]int{api.GWrite, api.GRead, api.GOver}, noEdges...) {
		for _, l := range [][]api.Proof{nil, {at(3, commits(0)), at(4, commits(1))}, {at(3, api.Event{}), at(4, api.Event{}), at(0, commits(0)), at(1, commits(1))}} {
			for _, txns := range [][2]int{{0, 0}, {0, 1}, {1, 0}, {1, 1}} {
				wantEdge(t, "nothing", l, edge(kind, txns[0], txns[1], 3, 4), false)
				wantEdge(t, "nothing", l, edge(kind, txns[0], txns[1], 8, 9), false)
			}
		}
	}
	for kind := range 6 {
		for _, l := range [][]api.Proof{nil, {at(3, commits(0))}, {at(3, commits(0)), at(1, reads(0, "", ""))}, {at(3, commits(0)), at(2, writes(0, "", ""))}} {
			wantBad(t, "nothing", l, kind, 1, 2, false)
			wantBad(t, "nothing", l, kind, 2, 1, false)
		}
	}
}
