package cert

import (
	"fmt"
	"math"
	"math/rand"
	"slices"
	"testing"

	"cartouche/api"
	"cartouche/judge"
)

// farAway are places of no history.
var farAway = []int{math.MinInt, -2, -1, math.MaxInt - 1, math.MaxInt}

func wantNeeds(t *testing.T, what string, h []api.Event, v api.Verdict, want ...int) {
	t.Helper()
	if n := Needs(h, v); !slices.Equal(n, want) {
		t.Errorf("%s, Needs of %v: %v, want %v", what, v, n, want)
	}
}

// forked has a value that two read and write over, one that was given up and one that never ends, and events behind an end.
func forked() []api.Event {
	return []api.Event{
		0: begin(1), 1: write(1, "a", "x"), 2: commit(1),
		3: begin(2), 4: begin(3), 5: read(2, "a", "x"), 6: read(3, "a", "x"), 7: write(2, "a", "y"), 8: write(3, "a", "z"), 9: commit(2), 10: abort(3),
		11: begin(4), 12: read(4, "b", ""), 13: write(4, "b", "w"), 14: read(4, "b", "nobody's"), 15: read(2, "b", "w"), 16: commit(2), 17: begin(2), 18: write(5, "a", "x"),
	}
}

// P14.1: of a verdict that accepts none, whatever else it has.
func TestNeedsOfAccept(t *testing.T) {
	ring := []api.Edge{edge(api.GRead, 1, 2, 1, 5)}
	for _, v := range []api.Verdict{
		{},
		{Order: []int{1, 2}, Bad: api.Bad{Kind: api.BAbort, I: 5, J: 1}},
		{Order: []int{1}, Bad: api.Bad{Kind: api.BOwn, I: 5, J: 1}, Ring: ring},
		{Ring: ring},
	} {
		for level := range 4 {
			v.Accept, v.Level = true, level
			wantNeeds(t, "accepted", forked(), v)
			wantNeeds(t, "accepted", nil, v)
		}
	}
	wantNeeds(t, "nothing is shown", forked(), api.Verdict{})
	wantNeeds(t, "nothing is shown, but for an order", forked(), api.Verdict{Order: []int{1, 2}})
	wantNeeds(t, "places without a kind", forked(), tainted(api.BNone, 5, 1))
}

// P14.1: of what was seen: both places, the writer, and the ends of all of them.
func TestNeedsOfBad(t *testing.T) {
	h := forked()
	for _, kind := range []int{math.MinInt, -1, api.BAbort, api.BMiddle, api.BOwn, api.BLater, 5, 256, math.MaxInt} {
		of := func(what string, i, j int, want ...int) {
			t.Helper()
			v := tainted(kind, i, j)
			wantNeeds(t, what, h, v, want...)
			v.Ring = []api.Edge{edge(api.GWrite, 1, 2, 1, 7)}
			wantNeeds(t, what+", with a ring", h, v, want...)
		}
		of("a read of another one's write", 5, 1, 1, 2, 5, 9)
		of("a read, and another write", 6, 7, 1, 2, 6, 7, 9, 10)
		of("one place twice", 5, 5, 1, 2, 5, 9)
		of("a write", 8, 1, 1, 2, 8, 10)
		of("turned", 1, 5, 1, 2, 5, 9)
		of("an empty read", 12, 7, 7, 9, 12)
		of("one that doesn't end", 13, 12, 12, 13)
		of("a read that nobody wrote", 14, 1, 1, 2, 14)
		of("an event behind the end, whose writer doesn't end", 15, 0, 0, 2, 9, 13, 15)
		of("the second one of two writes", 18, 18, 1, 2, 18)
		of("neither read nor write", 0, 16, 0, 2, 9, 16)
		for _, far := range append(farAway, len(h)) {
			of("no place I", far, 1, 1, 2)
			of("no place J", 5, far, 1, 2, 5, 9)
			of("no place", far, far)
		}
	}
}

// P14.1: of each edge both places and both ends; of a value that was written over also its writer, and that one's end.
func TestNeedsOfRing(t *testing.T) {
	h := forked()
	of := func(what string, e api.Edge, want ...int) {
		t.Helper()
		wantNeeds(t, what, h, round(e), want...)
		v := round(e, e)
		v.Level, v.Order, v.Bad = 9, []int{4}, api.Bad{I: 11, J: 12}
		wantNeeds(t, what+", twice", h, v, want...)
	}
	of("writes", edge(api.GWrite, 1, 2, 1, 7), 1, 2, 7, 9)
	of("a read", edge(api.GRead, 1, 2, 1, 5), 1, 2, 5, 9)
	of("what was written over", edge(api.GOver, 3, 2, 6, 7), 1, 2, 6, 7, 9, 10)
	of("what was there at first", edge(api.GOver, 4, 2, 12, 7), 7, 9, 12)
	of("a write as what was read", edge(api.GOver, 3, 2, 8, 7), 7, 8, 9, 10)
	of("what nobody wrote", edge(api.GOver, 4, 2, 14, 7), 7, 9, 14)
	of("a writer that doesn't end", edge(api.GOver, 2, 1, 15, 1), 1, 2, 9, 13, 15)
	of("a second writer", edge(api.GOver, 2, 3, 18, 8), 1, 2, 8, 9, 10, 18)
	for _, kind := range []int{math.MinInt, -1, 0, api.GWrite, api.GRead, 4, 259, math.MaxInt} {
		of("a read with a value, of another kind", edge(kind, 3, 2, 6, 7), 6, 7, 9, 10)
	}
	for kind := range 5 {
		of("another one's places", edge(kind, 1, 1, 12, 13), 2, 12, 13)
		of("neither read nor write", edge(kind, 1, 2, 0, 4), 0, 2, 4, 9)
		for _, txn := range []int{math.MinInt, -1, 0, 6, 33, math.MaxInt} {
			of("From is none", edge(kind, txn, 2, 12, 13), 9, 12, 13)
			of("To is none", edge(kind, 2, txn, 12, 13), 9, 12, 13)
			of("neither is one", edge(kind, txn, txn, 12, 13), 12, 13)
		}
		for _, far := range append(farAway, len(h)) {
			of("no place I", edge(kind, 1, 2, far, 7), 2, 7, 9)
			of("no place J", edge(kind, 1, 2, 12, far), 2, 9, 12)
			of("no place", edge(kind, 1, 2, far, far), 2, 9)
			wantNeeds(t, "nothing there", nil, round(edge(kind, 1, 2, far, 0)))
		}
	}
	wantNeeds(t, "two edges", h, round(edge(api.GOver, 3, 2, 6, 7), edge(api.GWrite, 1, 4, 0, 18)), 0, 1, 2, 6, 7, 9, 10, 18)
}

// someVerdict may be of any history of so many events, or of none.
func someVerdict(r *rand.Rand, many int) api.Verdict {
	place := func() int { return r.Intn(many+3) - 1 }
	v := api.Verdict{Level: r.Intn(4), Accept: r.Intn(8) == 0, Bad: api.Bad{Kind: max(0, r.Intn(9)-3), I: place(), J: place()}}
	for range r.Intn(4) {
		v.Ring = append(v.Ring, edge(r.Intn(5), r.Intn(5), r.Intn(5), place(), place()))
	}
	return v
}

// P14.1: by the document's words, of each row of up to four events, and of longer ones, whether they are well formed or not.
func TestNeedsByWords(t *testing.T) {
	r := rand.New(rand.NewSource(1))
	held := func(h []api.Event, v api.Verdict) {
		if n, want := Needs(h, v), plainNeeds(h, v); !slices.Equal(n, want) {
			t.Fatalf("Needs of %v, %+v: %v, want %v", h, v, n, want)
		}
	}
	var events []api.Event
	for txn := 1; txn <= 2; txn++ {
		events = append(events, begin(txn), read(txn, "a", ""), read(txn, "a", "x"), write(txn, "a", "x"), commit(txn), abort(txn))
	}
	var longer func(h []api.Event, more int)
	longer = func(h []api.Event, more int) {
		for range 6 {
			held(h, someVerdict(r, len(h)))
		}
		for _, x := range events {
			if more > 0 {
				longer(append(h, x), more-1)
			}
		}
	}
	longer(nil, 4)
	for range 4000 {
		h := wellFormed(r, 1+r.Intn(4), 12, 2, 3)
		m := marred(r, h)
		held(h, someVerdict(r, len(h)))
		held(m, someVerdict(r, len(m)))
		v, _ := judge.Judge(h, 1+r.Intn(2))
		held(h, v)
		held(m, v)
	}
}

// R1, R3: long histories and rings; what is handed in stays as it was, and no call remembers another one.
func TestNeedsOfMany(t *testing.T) {
	var h []api.Event
	for n := range 1000 {
		h = append(h, begin(n), write(n, "a", fmt.Sprint(n)), read(n, "a", fmt.Sprint(n-1)), commit(n))
	}
	var want []int
	v := api.Verdict{}
	for n := 1; n < 1000; n += 2 {
		v.Ring = append(v.Ring, edge(api.GOver, n, n+1, 4*n+2, 4*n+5))
		want = append(want, 4*n-3, 4*n-1, 4*n+2, 4*n+3)
		if n < 999 {
			want = append(want, 4*n+5, 4*n+7)
		}
	}
	slices.Sort(want)
	want = slices.Compact(want)
	before, ring := slices.Clone(h), slices.Clone(v.Ring)
	for range 2 {
		n := Needs(h, v)
		if !slices.Equal(n, want) || !slices.Equal(h, before) || !slices.Equal(v.Ring, ring) {
			t.Fatalf("%v, want %v", n, want)
		}
		n[0], n[1] = -7, -9
	}
}
