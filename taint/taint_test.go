package taint

import (
	"math"
	"math/rand"
	"slices"
	"testing"

	"cartouche/api"
	"cartouche/history"
)

func begin(txn int) api.Event  { return api.Event{Kind: api.EBegin, Txn: txn} }
func commit(txn int) api.Event { return api.Event{Kind: api.ECommit, Txn: txn} }
func abort(txn int) api.Event  { return api.Event{Kind: api.EAbort, Txn: txn} }

func read(txn int, key, val string) api.Event {
	return api.Event{Kind: api.ERead, Txn: txn, Key: key, Val: val}
}

func write(txn int, key, val string) api.Event {
	return api.Event{Kind: api.EWrite, Txn: txn, Key: key, Val: val}
}

// plainEnd is the place of a transaction's end, and whether it is a commit; how many events there are, if there is none.
func plainEnd(h []api.Event, txn int) (int, bool) {
	for i, x := range h {
		if x.Txn == txn && (x.Kind == 4 || x.Kind == 5) {
			return i, x.Kind == 4
		}
	}
	return len(h), false
}

// plainLast is the place of a transaction's last write of a key among the first events; -1, if there is none.
func plainLast(h []api.Event, txn int, key string, many int) int {
	for i := many - 1; i >= 0; i-- {
		if h[i].Kind == 3 && h[i].Txn == txn && h[i].Key == key {
			return i
		}
	}
	return -1
}

func plainCounts(h []api.Event, i int) bool {
	end, committed := plainEnd(h, h[i].Txn)
	return h[i].Kind == 2 && committed && i < end
}

// plainAt is what the document's words say of one place of h.
func plainAt(h []api.Event, i int) api.Bad {
	x := h[i]
	if !plainCounts(h, i) {
		return api.Bad{}
	}
	if k := plainLast(h, x.Txn, x.Key, i); k >= 0 {
		if h[k].Val == x.Val {
			return api.Bad{}
		}
		return api.Bad{Kind: 3, I: i, J: k}
	}
	if len(x.Val) == 0 {
		return api.Bad{}
	}
	w := slices.IndexFunc(h, func(y api.Event) bool { return y.Kind == 3 && y.Key == x.Key && y.Val == x.Val })
	if w < 0 {
		return api.Bad{}
	}
	if h[w].Txn == x.Txn {
		return api.Bad{Kind: 4, I: i, J: w}
	}
	end, committed := plainEnd(h, h[w].Txn)
	if !committed {
		return api.Bad{Kind: 1, I: i, J: w}
	}
	if m := plainLast(h, h[w].Txn, x.Key, end); m != w {
		return api.Bad{Kind: 2, I: i, J: m}
	}
	return api.Bad{}
}

// heldAgainstWords holds every call's answer of a history against the one by the document's words, and counts the kinds.
func heldAgainstWords(t *testing.T, h []api.Event, kinds map[int]int) {
	t.Helper()
	var all []api.Bad
	for i, x := range h {
		want := plainAt(h, i)
		kinds[want.Kind]++
		if want.Kind != 0 {
			all = append(all, want)
		}
		if bad := At(h, i); bad != want {
			t.Fatalf("At of %v, %d: %v, want %v", h, i, bad, want)
		}
		outer := plainCounts(h, i) && plainLast(h, x.Txn, x.Key, i) < 0
		if is := Outer(h, i); is != outer {
			t.Fatalf("Outer of %v, %d: %t", h, i, is)
		}
	}
	if l := All(h); !slices.Equal(l, all) {
		t.Fatalf("All of %v: %v, want %v", h, l, all)
	}
	var first api.Bad
	if len(all) > 0 {
		first = all[0]
	}
	if bad, is := First(h); bad != first || is != (len(all) > 0) {
		t.Fatalf("First of %v: %v, %t, want %v", h, bad, is, first)
	}
}

// rows calls do with each row of at most so many of the events.
func rows(events []api.Event, most int, do func(h []api.Event)) {
	h := make([]api.Event, 0, most)
	var longer func()
	longer = func() {
		do(h)
		if len(h) == most {
			return
		}
		for _, x := range events {
			h = append(h, x)
			longer()
			h = h[:len(h)-1]
		}
	}
	longer()
}

// anyHistory has any events, of some few names, most of which may be.
func anyHistory(r *rand.Rand, many, txns int) []api.Event {
	texts := []string{"a", "b", "ab", "", "\x00", "\xff"}
	h := make([]api.Event, many)
	for i := range h {
		x := api.Event{Kind: []int{1, 2, 2, 2, 2, 3, 3, 3, 3, 4, 4, 5}[r.Intn(12)], Txn: r.Intn(txns)}
		if r.Intn(20) == 0 {
			x.Kind, x.Txn = r.Intn(9)-2, []int{-1, 33, math.MinInt, math.MaxInt}[r.Intn(4)]
		}
		if x.Kind == api.ERead || x.Kind == api.EWrite || r.Intn(20) == 0 {
			x.Key, x.Val = texts[r.Intn(3)], texts[r.Intn(len(texts))]
		}
		h[i] = x
	}
	return h
}

// P9.1: each kind, and what is next to it, with both places.
func TestAt(t *testing.T) {
	for _, c := range []struct {
		what string
		h    []api.Event
		i    int
		want api.Bad
	}{
		{"the example", []api.Event{begin(1), write(1, "a", "x"), abort(1), begin(2), read(2, "a", "x"), commit(2)}, 4, api.Bad{Kind: api.BAbort, I: 4, J: 1}},
		{"of one that is given up later", []api.Event{begin(2), begin(1), write(1, "a", "x"), read(2, "a", "x"), commit(2), abort(1)}, 3, api.Bad{Kind: api.BAbort, I: 3, J: 2}},
		{"of one that writes later, and is given up", []api.Event{begin(2), read(2, "a", "x"), commit(2), begin(1), write(1, "a", "x"), abort(1)}, 1, api.Bad{Kind: api.BAbort, I: 1, J: 4}},
		{"of one that doesn't end", []api.Event{begin(1), write(1, "a", "x"), begin(2), read(2, "a", "x"), commit(2)}, 3, api.Bad{Kind: api.BAbort, I: 3, J: 1}},
		{"a value in the middle that was given up", []api.Event{begin(1), write(1, "a", "x"), write(1, "a", "y"), abort(1), begin(2), read(2, "a", "x"), commit(2)}, 5, api.Bad{Kind: api.BAbort, I: 5, J: 1}},
		{"of one that was given up ahead of a commit", []api.Event{write(1, "a", "x"), abort(1), commit(1), read(2, "a", "x"), commit(2)}, 3, api.Bad{Kind: api.BAbort, I: 3, J: 0}},
		{"of one that is given up behind its commit", []api.Event{write(1, "a", "x"), commit(1), abort(1), read(2, "a", "x"), commit(2)}, 3, api.Bad{}},
		{"of the first of two that wrote it", []api.Event{write(1, "a", "x"), abort(1), write(3, "a", "x"), commit(3), read(2, "a", "x"), commit(2)}, 4, api.Bad{Kind: api.BAbort, I: 4, J: 0}},

		{"a value in the middle", []api.Event{begin(1), write(1, "a", "x"), write(1, "a", "y"), commit(1), begin(2), read(2, "a", "x"), commit(2)}, 5, api.Bad{Kind: api.BMiddle, I: 5, J: 2}},
		{"the last of three is told", []api.Event{begin(1), write(1, "a", "x"), write(1, "a", "y"), write(1, "a", "z"), commit(1), begin(2), read(2, "a", "x"), commit(2)}, 6, api.Bad{Kind: api.BMiddle, I: 6, J: 3}},
		{"the second of three", []api.Event{begin(1), write(1, "a", "x"), write(1, "a", "y"), write(1, "a", "z"), commit(1), begin(2), read(2, "a", "y"), commit(2)}, 6, api.Bad{Kind: api.BMiddle, I: 6, J: 3}},
		{"the third of three", []api.Event{begin(1), write(1, "a", "x"), write(1, "a", "y"), write(1, "a", "z"), commit(1), begin(2), read(2, "a", "z"), commit(2)}, 6, api.Bad{}},
		{"written over behind the read", []api.Event{begin(1), begin(2), write(1, "a", "x"), read(2, "a", "x"), commit(2), write(1, "a", "y"), commit(1)}, 3, api.Bad{Kind: api.BMiddle, I: 3, J: 5}},
		{"written over by another one", []api.Event{begin(1), write(1, "a", "x"), commit(1), begin(3), write(3, "a", "y"), commit(3), begin(2), read(2, "a", "x"), commit(2)}, 7, api.Bad{}},
		{"another key was written behind", []api.Event{begin(1), write(1, "a", "x"), write(1, "b", "y"), commit(1), begin(2), read(2, "a", "x"), commit(2)}, 5, api.Bad{}},
		{"written over behind the end", []api.Event{write(1, "a", "x"), commit(1), write(1, "a", "y"), read(2, "a", "x"), commit(2)}, 3, api.Bad{}},
		{"written behind the end, and ahead of it", []api.Event{write(1, "a", "x"), commit(1), write(1, "a", "y"), read(2, "a", "y"), commit(2)}, 3, api.Bad{Kind: api.BMiddle, I: 3, J: 0}},
		{"written behind the end alone", []api.Event{commit(1), write(1, "a", "y"), read(2, "a", "y"), commit(2)}, 2, api.Bad{Kind: api.BMiddle, I: 2, J: -1}},

		{"what was there ahead of its own write", []api.Event{begin(1), write(1, "a", "x"), read(1, "a", ""), commit(1)}, 2, api.Bad{Kind: api.BOwn, I: 2, J: 1}},
		{"its own write ahead of its own last one", []api.Event{begin(1), write(1, "a", "x"), write(1, "a", "y"), read(1, "a", "x"), commit(1)}, 3, api.Bad{Kind: api.BOwn, I: 3, J: 2}},
		{"another one's behind its own write", []api.Event{begin(2), write(2, "a", "y"), commit(2), begin(1), write(1, "a", "x"), read(1, "a", "y"), commit(1)}, 5, api.Bad{Kind: api.BOwn, I: 5, J: 4}},
		{"one's that was given up, behind its own write", []api.Event{begin(2), write(2, "a", "y"), abort(2), begin(1), write(1, "a", "x"), read(1, "a", "y"), commit(1)}, 5, api.Bad{Kind: api.BOwn, I: 5, J: 4}},
		{"its own later one behind its own write", []api.Event{begin(1), write(1, "a", "x"), read(1, "a", "y"), write(1, "a", "y"), commit(1)}, 2, api.Bad{Kind: api.BOwn, I: 2, J: 1}},
		{"what nobody wrote behind its own write", []api.Event{begin(1), write(1, "a", "x"), read(1, "a", "z"), commit(1)}, 2, api.Bad{Kind: api.BOwn, I: 2, J: 1}},
		{"its own write at the first place", []api.Event{write(1, "a", "x"), read(1, "a", ""), commit(1)}, 1, api.Bad{Kind: api.BOwn, I: 1, J: 0}},
		{"its own last write", []api.Event{begin(1), write(1, "a", "x"), write(1, "a", "y"), read(1, "a", "y"), commit(1)}, 3, api.Bad{}},
		{"its own last write ahead of another one", []api.Event{begin(1), write(1, "a", "x"), read(1, "a", "x"), write(1, "a", "y"), commit(1)}, 2, api.Bad{}},
		{"its own write, that one who was given up wrote first", []api.Event{write(2, "a", "x"), abort(2), write(1, "a", "x"), read(1, "a", "x"), commit(1)}, 3, api.Bad{}},
		{"its own write of nothing", []api.Event{write(1, "a", ""), read(1, "a", ""), commit(1)}, 1, api.Bad{}},
		{"its own write of another key", []api.Event{begin(1), write(1, "b", "x"), read(1, "a", ""), commit(1)}, 2, api.Bad{}},
		{"another one's write of the key", []api.Event{begin(1), begin(2), write(2, "a", "x"), read(1, "a", ""), commit(1), commit(2)}, 3, api.Bad{}},

		{"its own later write", []api.Event{begin(1), read(1, "a", "x"), write(1, "a", "x"), commit(1)}, 1, api.Bad{Kind: api.BLater, I: 1, J: 2}},
		{"its own later write, that it writes over", []api.Event{begin(1), read(1, "a", "x"), write(1, "a", "x"), write(1, "a", "y"), commit(1)}, 1, api.Bad{Kind: api.BLater, I: 1, J: 2}},
		{"its own later write behind one of another key", []api.Event{begin(1), write(1, "b", "y"), read(1, "a", "x"), write(1, "a", "x"), commit(1)}, 2, api.Bad{Kind: api.BLater, I: 2, J: 3}},
		{"its own write behind its end", []api.Event{read(1, "a", "x"), commit(1), write(1, "a", "x")}, 0, api.Bad{Kind: api.BLater, I: 0, J: 2}},
		{"its own later write, that another one wrote first", []api.Event{write(2, "a", "x"), commit(2), read(1, "a", "x"), write(1, "a", "x"), commit(1)}, 2, api.Bad{}},

		{"a version", []api.Event{begin(1), write(1, "a", "x"), commit(1), begin(2), read(2, "a", "x"), commit(2)}, 4, api.Bad{}},
		{"a version that is committed later", []api.Event{begin(1), begin(2), write(1, "a", "x"), read(2, "a", "x"), commit(2), commit(1)}, 3, api.Bad{}},
		{"what was there at first", []api.Event{begin(1), write(1, "a", "x"), abort(1), begin(2), read(2, "a", ""), commit(2)}, 4, api.Bad{}},
		{"nothing, which one who was given up wrote", []api.Event{write(1, "a", ""), abort(1), read(2, "a", ""), commit(2)}, 2, api.Bad{}},
		{"nothing, which it writes later", []api.Event{read(1, "a", ""), write(1, "a", ""), commit(1)}, 0, api.Bad{}},
		{"what nobody wrote", []api.Event{begin(1), read(1, "a", "x"), commit(1)}, 1, api.Bad{}},
		{"what was written of another key", []api.Event{write(1, "b", "x"), abort(1), read(2, "a", "x"), commit(2)}, 2, api.Bad{}},
		{"the key's other value", []api.Event{write(1, "a", "y"), abort(1), read(2, "a", "x"), commit(2)}, 2, api.Bad{}},
	} {
		if bad := At(c.h, c.i); bad != c.want {
			t.Errorf("%s: %v, want %v", c.what, bad, c.want)
		}
		heldAgainstWords(t, c.h, map[int]int{})
	}
}

// P9.1, P9.2: what is no read, or one that doesn't count, though it would be told else.
func TestWhatDoesNotCount(t *testing.T) {
	for _, c := range []struct {
		what string
		h    []api.Event
		i    int
	}{
		{"of one that was given up", []api.Event{write(1, "a", "x"), abort(1), read(2, "a", "x"), abort(2)}, 2},
		{"of one that doesn't end", []api.Event{write(1, "a", "x"), abort(1), read(2, "a", "x")}, 2},
		{"of one that was given up ahead of a commit", []api.Event{write(1, "a", "x"), abort(1), read(2, "a", "x"), abort(2), commit(2)}, 2},
		{"behind its commit", []api.Event{write(1, "a", "x"), abort(1), commit(2), read(2, "a", "x")}, 3},
		{"behind its first commit", []api.Event{write(1, "a", "x"), abort(1), commit(2), read(2, "a", "x"), commit(2)}, 3},
		{"another one is committed", []api.Event{write(1, "a", "x"), abort(1), read(2, "a", "x"), commit(3), commit(1)}, 2},
		{"a write", []api.Event{write(1, "a", "x"), abort(1), write(2, "a", "x"), commit(2)}, 2},
		{"a begin", []api.Event{write(1, "a", "x"), abort(1), {Kind: api.EBegin, Txn: 2, Key: "a", Val: "x"}, commit(2)}, 2},
		{"a commit", []api.Event{write(1, "a", "x"), abort(1), {Kind: api.ECommit, Txn: 2, Key: "a", Val: "x"}}, 2},
		{"an abort", []api.Event{write(1, "a", "x"), abort(1), {Kind: api.EAbort, Txn: 2, Key: "a", Val: "x"}}, 2},
		{"no kind", []api.Event{write(1, "a", "x"), abort(1), {Txn: 2, Key: "a", Val: "x"}, commit(2)}, 2},
		{"a kind that goes round to a read", []api.Event{write(1, "a", "x"), abort(1), {Kind: 258, Txn: 2, Key: "a", Val: "x"}, commit(2)}, 2},
	} {
		if bad := At(c.h, c.i); bad != (api.Bad{}) {
			t.Errorf("%s: %v", c.what, bad)
		}
		if Outer(c.h, c.i) {
			t.Errorf("%s: an outer read", c.what)
		}
		heldAgainstWords(t, c.h, map[int]int{})
	}
}

// P9.1, P9.2: places that are none.
func TestNoPlaces(t *testing.T) {
	h := []api.Event{read(1, "a", "x"), write(1, "a", "x"), read(1, "b", "y"), commit(1), write(2, "b", "y"), abort(2)}
	for _, many := range []int{0, 1, 3, len(h)} {
		for _, i := range []int{math.MinInt, -1 << 32, -len(h), -2, -1, many, many + 1, 2 * len(h), 1 << 32, math.MaxInt} {
			if bad := At(h[:many], i); bad != (api.Bad{}) {
				t.Errorf("At of the first %d, %d: %v", many, i, bad)
			}
			if Outer(h[:many], i) {
				t.Errorf("Outer of the first %d, %d", many, i)
			}
		}
	}
	for _, none := range [][]api.Event{nil, {}} {
		if bad, is := First(none); bad != (api.Bad{}) || is || len(All(none)) != 0 {
			t.Errorf("of no event: %v, %t", bad, is)
		}
	}
}

// P9.2: all kinds in one history, in the order of the reads, not of the writes; the first one is the first read's.
func TestAllAndFirst(t *testing.T) {
	h := []api.Event{
		begin(1), begin(2), begin(3), begin(4),
		write(1, "a", "m"), write(1, "a", "n"), write(2, "b", "g"), write(3, "c", "o"),
		read(4, "b", ""), read(3, "c", ""), read(4, "d", "l"), read(4, "b", "g"), read(1, "b", "g"), read(4, "a", "m"), read(4, "a", "n"), read(4, "a", "m"),
		write(4, "d", "l"), read(2, "a", "m"), commit(1), abort(2), commit(3), commit(4),
	}
	want := []api.Bad{
		{Kind: api.BOwn, I: 9, J: 7}, {Kind: api.BLater, I: 10, J: 16}, {Kind: api.BAbort, I: 11, J: 6},
		{Kind: api.BAbort, I: 12, J: 6}, {Kind: api.BMiddle, I: 13, J: 5}, {Kind: api.BMiddle, I: 15, J: 5},
	}
	if n, e := history.Formed(h); n != len(h) || e != api.OK {
		t.Fatalf("it is well formed: %d, %d", n, e)
	}
	if l := All(h); !slices.Equal(l, want) {
		t.Errorf("All: %v", l)
	}
	if bad, is := First(h); bad != want[0] || !is {
		t.Errorf("First: %v, %t", bad, is)
	}
	h[9].Val = "o"
	if bad, is := First(h); bad != want[1] || !is || !slices.Equal(All(h), want[1:]) {
		t.Errorf("without the first one: %v, %t", bad, is)
	}
}

// P9.2: outer reads are those that count, whatever they see, behind no write of their transaction and key.
func TestOuter(t *testing.T) {
	h := []api.Event{
		begin(1), read(1, "a", ""), read(1, "a", "x"), write(2, "a", "x"), write(1, "b", "y"), read(1, "a", "nobody's"),
		write(1, "a", "z"), read(1, "a", "z"), read(1, "a", "x"), read(1, "b", "y"), read(1, "c", ""), read(2, "b", "y"), commit(1), read(1, "c", ""), abort(2),
	}
	for i := range h {
		if is := Outer(h, i); is != slices.Contains([]int{1, 2, 5, 10}, i) {
			t.Errorf("Outer of %d: %t", i, is)
		}
	}
}

// P9.1, P9.2: all calls by the document's words, of each short row of reads, writes and ends of two transactions.
func TestShortRowsByWords(t *testing.T) {
	var events []api.Event
	for txn := 1; txn <= 2; txn++ {
		events = append(events, read(txn, "a", ""), read(txn, "a", "x"), write(txn, "a", "x"), write(txn, "a", "y"), commit(txn), abort(txn))
	}
	kinds := map[int]int{}
	rows(events, 5, func(h []api.Event) { heldAgainstWords(t, h, kinds) })
	for kind := api.BNone; kind <= api.BLater; kind++ {
		if kinds[kind] < 500 {
			t.Errorf("%d of the kind %d alone", kinds[kind], kind)
		}
	}
}

// P9.1, P9.2: all calls by the document's words, of any events, also of more than a well formed history may have.
func TestAnyEventsByWords(t *testing.T) {
	r := rand.New(rand.NewSource(1))
	kinds := map[int]int{}
	for range 60000 {
		heldAgainstWords(t, anyHistory(r, r.Intn(30), 1+r.Intn(6)), kinds)
	}
	for _, many := range []int{256, 257, 1000} {
		heldAgainstWords(t, anyHistory(r, many, 40), kinds)
	}
	for kind := api.BNone; kind <= api.BLater; kind++ {
		if kinds[kind] < 500 {
			t.Errorf("%d of the kind %d alone", kinds[kind], kind)
		}
	}
}

// sees: does a read see its transaction's last write or, where there is none, what was there at first or another committed one's last write?
func sees(h []api.Event, i int) bool {
	x := h[i]
	if own := plainLast(h, x.Txn, x.Key, i); own >= 0 {
		return x.Val == h[own].Val
	}
	for j, y := range h {
		end, committed := plainEnd(h, y.Txn)
		if y.Txn != x.Txn && committed && y.Kind == api.EWrite && y.Key == x.Key && y.Val == x.Val {
			return plainLast(h, y.Txn, y.Key, end) == j
		}
	}
	return x.Val == ""
}

// P9.3: in a well formed history just the reads of committed transactions that see something else are told, in order, each once.
func TestWellFormed(t *testing.T) {
	var events []api.Event
	for txn := 1; txn <= 2; txn++ {
		events = append(events, read(txn, "a", ""), read(txn, "a", "x"), read(txn, "a", "y"), write(txn, "a", "x"), write(txn, "a", "y"))
	}
	seen, sound := 0, 0
	held := func(h []api.Event) {
		if _, e := history.Formed(h); e != api.OK {
			return
		}
		seen++
		var want []int
		for i, x := range h {
			if _, committed := plainEnd(h, x.Txn); x.Kind == api.ERead && committed && !sees(h, i) {
				want = append(want, i)
			}
		}
		var got []int
		for _, bad := range All(h) {
			got = append(got, bad.I)
			if h[bad.J].Kind != api.EWrite || h[bad.J].Key != h[bad.I].Key {
				t.Fatalf("%v: %v is shown by no write of its key", h, bad)
			}
		}
		if !slices.Equal(got, want) {
			t.Fatalf("All of %v: of the reads %v, want %v", h, got, want)
		}
		if len(want) == 0 {
			sound++
		}
	}
	rows(events, 4, func(middle []api.Event) {
		for _, ends := range [][]api.Event{{commit(1), commit(2)}, {commit(2), abort(1)}, {abort(2), commit(1)}} {
			held(slices.Concat([]api.Event{begin(1), begin(2)}, middle, ends))
		}
	})
	if seen < 5000 || sound < 500 || seen-sound < 500 {
		t.Errorf("%d are well formed, %d of them sound", seen, sound)
	}
}

// R3, R4: what is handed in stays as it was, what stands behind it isn't read, what comes out is new, and no call remembers another one.
func TestNothingIsKept(t *testing.T) {
	r := rand.New(rand.NewSource(2))
	told := []api.Event{read(8, "b", "later"), write(8, "b", "later"), read(8, "b", ""), commit(8)}
	h, other := append(anyHistory(r, 60, 5), told...), anyHistory(r, 60, 5)
	before := slices.Clone(h)
	behind := append(slices.Clone(h), read(7, "a", "new"), write(7, "a", "new"), commit(7))
	all := All(behind[:len(h)])
	if len(all) < 2 || !slices.Equal(all, All(h)) {
		t.Errorf("%v: what stands behind a history is read", all)
	}
	if !slices.Equal(behind[:len(h)], h) || behind[len(h)] != read(7, "a", "new") || behind[len(h)+2] != commit(7) {
		t.Error("the history, or what stands behind it, is written into")
	}
	heldAgainstWords(t, other, map[int]int{})
	for i := range all {
		all[i] = api.Bad{Kind: -9, I: -9, J: -9}
	}
	heldAgainstWords(t, h, map[int]int{})
	if !slices.Equal(h, before) {
		t.Error("the history is written into")
	}
}
