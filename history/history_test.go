package history

import (
	"fmt"
	"math"
	"math/rand"
	"slices"
	"strings"
	"testing"

	"cartouche/api"
	"cartouche/event"
)

func begin(txn int) api.Event  { return api.Event{Kind: api.EBegin, Txn: txn} }
func commit(txn int) api.Event { return api.Event{Kind: api.ECommit, Txn: txn} }
func abort(txn int) api.Event  { return api.Event{Kind: api.EAbort, Txn: txn} }

func read(txn int, key, val string) api.Event {
	return api.Event{Kind: api.ERead, Txn: txn, Key: key, Val: val}
}

func write(txn int, key, val string) api.Event {
	return api.Event{Kind: api.EWrite, Txn: txn, Key: key, Val: val}
}

// wrongEvents may not be, each for a reason of its own.
func wrongEvents() []api.Event {
	long := strings.Repeat("z", 33)
	return []api.Event{
		{},
		{Kind: 6, Txn: 1},
		{Kind: -1, Txn: 1},
		{Kind: 257, Txn: 1},
		{Kind: math.MinInt, Txn: math.MaxInt},
		begin(0), begin(33), begin(-1), begin(257), commit(0), abort(33),
		{Kind: api.EBegin, Txn: 1, Key: "a"},
		{Kind: api.ECommit, Txn: 1, Val: "a"},
		{Kind: api.EAbort, Txn: 1, Key: "a", Val: "x"},
		read(1, "", ""), read(1, "", "x"), read(1, long, ""), read(1, "a", long), read(0, "a", ""), read(33, "a", "x"),
		write(1, "a", ""), write(1, "", "x"), write(1, long, "x"), write(1, "a", long), write(0, "a", "x"), write(33, "a", "x"),
	}
}

// plainEnd is the place of a transaction's first ECommit or EAbort; -1, if there is none.
func plainEnd(h []api.Event, txn int) int {
	return slices.IndexFunc(h, func(x api.Event) bool { return x.Txn == txn && (x.Kind == 4 || x.Kind == 5) })
}

// plainFault is what the document's words say of one event.
func plainFault(h []api.Event, i int) api.Errno {
	x, there, ended, written, source := h[i], false, false, false, false
	for j, y := range h {
		if j < i && y.Txn == x.Txn {
			there = true
			ended = ended || y.Kind == 4 || y.Kind == 5
		}
		if y.Kind == 3 {
			written = written || j < i && y.Val == x.Val
			source = source || y.Key == x.Key && y.Val == x.Val
		}
	}
	if !event.May(x) {
		return api.ErrArg
	}
	if x.Kind == 1 {
		if there {
			return api.ErrThere
		}
		return api.OK
	}
	if !there {
		return api.ErrNone
	}
	if ended {
		return api.ErrState
	}
	if x.Kind == 3 && written {
		return api.ErrThere
	}
	if x.Kind == 2 && len(x.Val) > 0 && !source {
		return api.ErrNone
	}
	return api.OK
}

func plainFormed(h []api.Event) (int, api.Errno) {
	if len(h) >= 257 {
		return 0, api.ErrBig
	}
	for i := range h {
		if e := plainFault(h, i); e != api.OK {
			return i, e
		}
	}
	for _, x := range h {
		if x.Kind == 1 && plainEnd(h, x.Txn) < 0 {
			return len(h), api.ErrState
		}
	}
	return len(h), api.OK
}

func plainLives(h []api.Event) []api.Life {
	var l []api.Life
	for i, x := range h {
		if slices.ContainsFunc(h[:i], func(y api.Event) bool { return y.Txn == x.Txn }) {
			continue
		}
		one := api.Life{Txn: x.Txn, From: i, To: len(h)}
		if end := plainEnd(h, x.Txn); end >= 0 {
			one.To, one.Committed = end, h[end].Kind == 4
		}
		l = append(l, one)
	}
	return l
}

func plainLast(h []api.Event, txn int, key string, before int) int {
	for i := len(h) - 1; i >= 0; i-- {
		if i < before && h[i].Kind == 3 && h[i].Txn == txn && h[i].Key == key {
			return i
		}
	}
	return -1
}

func plainWriter(h []api.Event, key, val string) int {
	return slices.IndexFunc(h, func(x api.Event) bool { return x.Kind == 3 && x.Key == key && x.Val == val })
}

func plainVersions(h []api.Event, key string) []int {
	var l []int
	for i, x := range h {
		if x.Kind != 4 || plainEnd(h, x.Txn) != i {
			continue
		}
		if last := plainLast(h, x.Txn, key, i); last >= 0 {
			l = append(l, last)
		}
	}
	return l
}

func plainKeys(h []api.Event) []string {
	var l []string
	for _, x := range h {
		if x.Kind == 2 || x.Kind == 3 {
			l = append(l, x.Key)
		}
	}
	slices.Sort(l)
	return slices.Compact(l)
}

// goodHistory is well formed: each transaction begins and ends, each value is written once, and what is read is written somewhere, ahead or behind.
func goodHistory(r *rand.Rand, txns, keys, most int) []api.Event {
	rows := make([][]api.Event, txns)
	numbers := r.Perm(api.MaxTxn)[:txns]
	var writes []api.Event
	for n := range rows {
		txn := numbers[n] + 1
		rows[n] = append(rows[n], begin(txn))
		for range r.Intn(most + 1) {
			x := read(txn, fmt.Sprintf("k%d", r.Intn(keys)), "")
			if r.Intn(2) == 0 {
				x = write(txn, x.Key, fmt.Sprintf("v%d", len(writes)))
				writes = append(writes, x)
			}
			rows[n] = append(rows[n], x)
		}
		rows[n] = append(rows[n], []api.Event{commit(txn), abort(txn)}[r.Intn(4)/3])
	}
	var h []api.Event
	for len(rows) > 0 {
		n := r.Intn(len(rows))
		x := rows[n][0]
		if x.Kind == api.ERead && len(writes) > 0 && r.Intn(3) > 0 {
			seen := writes[r.Intn(len(writes))]
			x.Key, x.Val = seen.Key, seen.Val
		}
		h = append(h, x)
		if rows[n] = rows[n][1:]; len(rows[n]) == 0 {
			rows = slices.Delete(rows, n, n+1)
		}
	}
	return h
}

// marred is a history with some events changed, moved, doubled, left out, or put in that may not be.
func marred(r *rand.Rand, h []api.Event) []api.Event {
	h = slices.Clone(h)
	for range 1 + r.Intn(3) {
		if len(h) == 0 {
			return h
		}
		i, j := r.Intn(len(h)), r.Intn(len(h))
		switch r.Intn(9) {
		case 0:
			h = slices.Delete(h, i, i+1)
		case 1:
			h = slices.Insert(h, i, h[j])
		case 2:
			h[i], h[j] = h[j], h[i]
		case 3:
			h[i].Txn = h[j].Txn
		case 4:
			h[i].Key = h[j].Key
		case 5:
			h[i].Val = h[j].Val
		case 6:
			h[i].Kind = r.Intn(7)
		case 7:
			wrong := wrongEvents()
			h = slices.Insert(h, i, wrong[r.Intn(len(wrong))])
		case 8:
			h = h[:i]
		}
	}
	return h
}

// oddHistory has any events, of some few names, most of which may be.
func oddHistory(r *rand.Rand, many, txns, names int) []api.Event {
	texts := []string{"", "a", "b", "\x00", "\xff", "ab", "B", "\xc3\xa9", "a\x00"}
	h := make([]api.Event, many)
	for i := range h {
		x := api.Event{Kind: 1 + r.Intn(5), Txn: r.Intn(txns)}
		if r.Intn(20) == 0 {
			x.Kind, x.Txn = r.Intn(9)-2, []int{-1, 33, math.MinInt, math.MaxInt}[r.Intn(4)]
		}
		if x.Kind == api.ERead || x.Kind == api.EWrite || r.Intn(20) == 0 {
			x.Key, x.Val = texts[r.Intn(min(names, len(texts)))], texts[r.Intn(len(texts))]
		}
		h[i] = x
	}
	return h
}

// heldAgainstWords holds every call's answer of a history against the one by the document's words.
func heldAgainstWords(t *testing.T, h []api.Event) {
	t.Helper()
	n, e := Formed(h)
	if wantN, want := plainFormed(h); n != wantN || e != want {
		t.Errorf("Formed of %v: %d, %d, want %d, %d", h, n, e, wantN, want)
	}
	lives := plainLives(h)
	if l := Lives(h); !slices.Equal(l, lives) {
		t.Errorf("Lives of %v: %v, want %v", h, l, lives)
	}
	keys := plainKeys(h)
	if l := Keys(h); !slices.Equal(l, keys) {
		t.Errorf("Keys of %v: %q, want %q", h, l, keys)
	}
	for _, want := range lives {
		if one, is := Find(h, want.Txn); one != want || !is {
			t.Errorf("Find of %v, %d: %v, %t, want %v", h, want.Txn, one, is, want)
		}
	}
	for _, key := range append(keys, "", "nobody's") {
		if l, want := Versions(h, key), plainVersions(h, key); !slices.Equal(l, want) {
			t.Errorf("Versions of %v, %q: %v, want %v", h, key, l, want)
		}
	}
	for i, x := range h {
		y := h[(i*7+3)%len(h)]
		for _, val := range []string{x.Val, y.Val, ""} {
			if at, want := Writer(h, x.Key, val), plainWriter(h, x.Key, val); at != want {
				t.Errorf("Writer of %v, %q, %q: %d, want %d", h, x.Key, val, at, want)
			}
		}
		for _, before := range []int{i, i + 1, len(h) - i, len(h)} {
			if at, want := Last(h, x.Txn, y.Key, before), plainLast(h, x.Txn, y.Key, before); at != want {
				t.Errorf("Last of %v, %d, %q, %d: %d, want %d", h, x.Txn, y.Key, before, at, want)
			}
			if at, want := Last(h, x.Txn, x.Key, before), plainLast(h, x.Txn, x.Key, before); at != want {
				t.Errorf("Last of %v, %d, %q, %d: %d, want %d", h, x.Txn, x.Key, before, at, want)
			}
		}
	}
}

// P8.1: the chapter's examples, and each fault by itself, with its place.
func TestFormed(t *testing.T) {
	long, longer := strings.Repeat("a", 32), strings.Repeat("a", 33)
	for _, c := range []struct {
		what string
		h    []api.Event
		n    int
		e    api.Errno
	}{
		{"the first example", []api.Event{begin(1), write(1, "a", "x"), commit(1)}, 3, api.OK},
		{"the second example", []api.Event{read(1, "a", "")}, 0, api.ErrNone},
		{"nothing", nil, 0, api.OK},
		{"no event", []api.Event{}, 0, api.OK},
		{"a begin and an end", []api.Event{begin(32), abort(32)}, 2, api.OK},
		{"the longest texts", []api.Event{begin(1), write(1, long, long), read(1, long, long), commit(1)}, 4, api.OK},
		{"too long a key", []api.Event{begin(1), write(1, longer, "x"), commit(1)}, 1, api.ErrArg},
		{"a write of nothing", []api.Event{begin(1), write(1, "a", ""), commit(1)}, 1, api.ErrArg},
		{"an end with a key", []api.Event{begin(1), {Kind: api.ECommit, Txn: 1, Key: "a"}}, 1, api.ErrArg},
		{"two begins", []api.Event{begin(1), begin(1), commit(1)}, 1, api.ErrThere},
		{"two begins with an end between", []api.Event{begin(1), commit(1), begin(1), commit(1)}, 2, api.ErrThere},
		{"two begins with an abort between", []api.Event{begin(2), abort(2), begin(2)}, 2, api.ErrThere},
		{"a write ahead of the begin", []api.Event{begin(2), write(1, "a", "x"), begin(1), commit(1), commit(2)}, 1, api.ErrNone},
		{"a commit without a begin", []api.Event{begin(1), commit(2), commit(1)}, 1, api.ErrNone},
		{"an abort without a begin", []api.Event{abort(1)}, 0, api.ErrNone},
		{"a read behind a commit", []api.Event{begin(1), commit(1), read(1, "a", "")}, 2, api.ErrState},
		{"a read behind an abort", []api.Event{begin(1), abort(1), read(1, "a", "")}, 2, api.ErrState},
		{"a write behind a commit", []api.Event{begin(1), commit(1), write(1, "a", "x")}, 2, api.ErrState},
		{"two commits", []api.Event{begin(1), commit(1), commit(1)}, 2, api.ErrState},
		{"an abort behind a commit", []api.Event{begin(1), commit(1), abort(1)}, 2, api.ErrState},
		{"a commit behind an abort", []api.Event{begin(1), abort(1), commit(1)}, 2, api.ErrState},
		{"a value twice of one key", []api.Event{begin(1), write(1, "a", "x"), write(1, "a", "x"), commit(1)}, 2, api.ErrThere},
		{"a value twice of two keys", []api.Event{begin(1), write(1, "a", "x"), write(1, "b", "x"), commit(1)}, 2, api.ErrThere},
		{"a value twice of two transactions", []api.Event{begin(1), begin(2), write(1, "a", "x"), abort(1), write(2, "b", "x"), commit(2)}, 4, api.ErrThere},
		{"a key that is a value", []api.Event{begin(1), write(1, "x", "y"), write(1, "y", "x"), commit(1)}, 4, api.OK},
		{"a value that was only read ahead", []api.Event{begin(1), read(1, "a", "x"), write(1, "a", "x"), commit(1)}, 4, api.OK},
		{"a read of what is written behind, by another one", []api.Event{begin(1), read(1, "a", "x"), commit(1), begin(2), write(2, "a", "x"), abort(2)}, 6, api.OK},
		{"a read of what nobody writes", []api.Event{begin(1), read(1, "a", "x"), commit(1)}, 1, api.ErrNone},
		{"a read of another key's value", []api.Event{begin(1), write(1, "b", "x"), read(1, "a", "x"), commit(1)}, 2, api.ErrNone},
		{"a read of the key's other value", []api.Event{begin(1), write(1, "a", "y"), read(1, "a", "x"), commit(1)}, 2, api.ErrNone},
		{"a read of the key of one and the value of another write", []api.Event{begin(1), write(1, "a", "y"), write(1, "b", "x"), read(1, "a", "x"), commit(1)}, 3, api.ErrNone},
		{"a read of what only a read has", []api.Event{begin(1), read(1, "a", "x"), read(1, "a", "x"), commit(1)}, 1, api.ErrNone},
		{"a read of what was there at first", []api.Event{begin(1), write(1, "b", "x"), read(1, "a", ""), read(1, "b", ""), commit(1)}, 5, api.OK},
		{"no end", []api.Event{begin(1)}, 1, api.ErrState},
		{"no end of one of three", []api.Event{begin(1), begin(2), begin(3), commit(1), abort(3)}, 5, api.ErrState},
		{"no end of the last", []api.Event{begin(1), commit(1), begin(2), write(2, "a", "x")}, 4, api.ErrState},
	} {
		if n, e := Formed(c.h); n != c.n || e != c.e {
			t.Errorf("%s: %d, %d, want %d, %d", c.what, n, e, c.n, c.e)
		}
	}
}

// P8.1: where several faults apply, the first event's is told, and of that one the first that the promise names.
func TestFormedTellsTheFirst(t *testing.T) {
	wrongBegin := api.Event{Kind: api.EBegin, Txn: 1, Val: "x"}
	for _, c := range []struct {
		what string
		h    []api.Event
		n    int
		e    api.Errno
	}{
		{"may not be, and began ahead", []api.Event{begin(1), wrongBegin}, 1, api.ErrArg},
		{"may not be, and none is ahead", []api.Event{write(1, "a", "")}, 0, api.ErrArg},
		{"may not be, and ended", []api.Event{begin(1), commit(1), read(1, "", "x")}, 2, api.ErrArg},
		{"none is ahead, and the value is written", []api.Event{begin(1), write(1, "a", "x"), commit(1), write(2, "a", "x")}, 3, api.ErrNone},
		{"ended, and the value is written", []api.Event{begin(1), write(1, "a", "x"), commit(1), write(1, "a", "x")}, 3, api.ErrState},
		{"ended, and nobody writes what is read", []api.Event{begin(1), commit(1), read(1, "a", "x")}, 2, api.ErrState},
		{"ended, and begins", []api.Event{begin(1), commit(1), begin(1)}, 2, api.ErrThere},
		{"a read of nothing ahead of one that may not be", []api.Event{begin(1), read(1, "a", "x"), {}}, 1, api.ErrNone},
		{"one that may not be ahead of a read of nothing", []api.Event{begin(1), {}, read(1, "a", "x")}, 1, api.ErrArg},
		{"no end, and a fault behind", []api.Event{begin(1), begin(2), commit(2), commit(3)}, 3, api.ErrNone},
		{"a read of what only one writes that may not be", []api.Event{begin(1), read(1, "a", "x"), write(33, "a", "x")}, 2, api.ErrArg},
		{"a read of what only one writes that is late", []api.Event{begin(1), begin(2), read(1, "a", "x"), commit(2), write(2, "a", "x")}, 4, api.ErrState},
	} {
		if n, e := Formed(c.h); n != c.n || e != c.e {
			t.Errorf("%s: %d, %d, want %d, %d", c.what, n, e, c.n, c.e)
		}
	}
	for _, wrong := range wrongEvents() {
		good := []api.Event{begin(1), begin(2), write(1, "a", "v"), commit(1), abort(2)}
		for i := range len(good) + 1 {
			if n, e := Formed(slices.Insert(slices.Clone(good), i, wrong)); n != i || e != api.ErrArg {
				t.Errorf("%v at %d: %d, %d", wrong, i, n, e)
			}
		}
	}
}

// P8.1: as many events as there may be, and one more, whatever they are.
func TestFormedBound(t *testing.T) {
	for _, many := range []int{255, 256, 257, 258, 512, 513, 65536, 65537} {
		h := []api.Event{begin(1)}
		for i := range many - 2 {
			h = append(h, write(1, "a", fmt.Sprintf("%d", i)))
		}
		h = append(h, commit(1))
		wantN, want := many, api.OK
		if many > 256 {
			wantN, want = 0, api.ErrBig
		}
		if n, e := Formed(h); n != wantN || e != want {
			t.Errorf("%d events: %d, %d", many, n, e)
		}
		h[0], want = api.Event{}, max(want, api.ErrArg)
		if n, e := Formed(h); n != 0 || e != want {
			t.Errorf("%d events, the first may not be: %d, %d", many, n, e)
		}
	}
}

// P8.2: transactions that are written out: in the order of their first events, whatever these are, and up to their first end.
func TestLives(t *testing.T) {
	for _, c := range []struct {
		what string
		h    []api.Event
		want []api.Life
	}{
		{"nothing", nil, nil},
		{"one", []api.Event{begin(1), commit(1)}, []api.Life{{Txn: 1, From: 0, To: 1, Committed: true}}},
		{"not by their numbers, not by their ends", []api.Event{begin(9), begin(2), begin(5), commit(5), abort(9), commit(2)},
			[]api.Life{{Txn: 9, From: 0, To: 4}, {Txn: 2, From: 1, To: 5, Committed: true}, {Txn: 5, From: 2, To: 3, Committed: true}}},
		{"one that doesn't end", []api.Event{begin(1), begin(2), commit(1), write(2, "a", "x")},
			[]api.Life{{Txn: 1, From: 0, To: 2, Committed: true}, {Txn: 2, From: 1, To: 4}}},
		{"one without a begin", []api.Event{begin(1), read(2, "a", ""), commit(2), abort(1)},
			[]api.Life{{Txn: 1, From: 0, To: 3}, {Txn: 2, From: 1, To: 2, Committed: true}}},
		{"ends alone", []api.Event{abort(2), commit(1)}, []api.Life{{Txn: 2, From: 0, To: 0}, {Txn: 1, From: 1, To: 1, Committed: true}}},
		{"an abort behind a commit", []api.Event{begin(1), commit(1), abort(1)}, []api.Life{{Txn: 1, From: 0, To: 1, Committed: true}}},
		{"a commit behind an abort", []api.Event{begin(1), abort(1), commit(1), commit(1)}, []api.Life{{Txn: 1, From: 0, To: 1}}},
		{"a begin behind an end", []api.Event{begin(1), abort(1), begin(1), commit(1)}, []api.Life{{Txn: 1, From: 0, To: 1}}},
		{"numbers that may not be", []api.Event{begin(0), {Kind: 9, Txn: math.MinInt}, commit(math.MaxInt), {}},
			[]api.Life{{Txn: 0, From: 0, To: 4}, {Txn: math.MinInt, From: 1, To: 4}, {Txn: math.MaxInt, From: 2, To: 2, Committed: true}}},
	} {
		if l := Lives(c.h); !slices.Equal(l, c.want) {
			t.Errorf("%s: %v", c.what, l)
		}
		for _, want := range c.want {
			if one, is := Find(c.h, want.Txn); one != want || !is {
				t.Errorf("%s: Find of %d: %v, %t", c.what, want.Txn, one, is)
			}
		}
		for _, txn := range []int{3, 33, -1, math.MaxInt - 1} {
			if one, is := Find(c.h, txn); one != (api.Life{}) || is {
				t.Errorf("%s: Find of nobody, %d: %v, %t", c.what, txn, one, is)
			}
		}
	}
	if one, is := Find([]api.Event{begin(1), commit(1)}, 0); one != (api.Life{}) || is {
		t.Errorf("Find of 0, which is nobody: %v, %t", one, is)
	}
}

// P8.2: keys rise by their bytes, each once; only reads and writes have some, and an empty one is one.
func TestKeys(t *testing.T) {
	for _, c := range []struct {
		what string
		h    []api.Event
		want []string
	}{
		{"nothing", nil, nil},
		{"none", []api.Event{begin(1), commit(1)}, nil},
		{"by bytes", []api.Event{write(1, "b", "x"), read(1, "\xff", ""), read(2, "a\x00", ""), write(2, "a", "y"), read(1, "B", ""), read(1, "\xc3\xa9", ""), read(1, "10", ""), read(1, "9", "")},
			[]string{"10", "9", "B", "a", "a\x00", "b", "\xc3\xa9", "\xff"}},
		{"each once", []api.Event{read(1, "b", ""), write(1, "a", "x"), read(2, "a", "x"), write(2, "b", "y"), write(3, "a", "z")}, []string{"a", "b"}},
		{"of reads and writes alone", []api.Event{{Kind: api.EBegin, Txn: 1, Key: "a"}, {Kind: api.ECommit, Txn: 1, Key: "b"}, {Kind: api.EAbort, Key: "c"}, {Key: "d"}, {Kind: 6, Key: "e"}, read(0, "f", "")}, []string{"f"}},
		{"an empty one", []api.Event{read(1, "a", ""), write(1, "", "x")}, []string{"", "a"}},
		{"of one that ended, or never began", []api.Event{abort(1), read(1, "b", ""), write(2, "a", "x")}, []string{"a", "b"}},
	} {
		if l := Keys(c.h); !slices.Equal(l, c.want) {
			t.Errorf("%s: %q", c.what, l)
		}
	}
}

// P8.3: who wrote a value: both texts count, reads don't, and of several the first is told.
func TestWriter(t *testing.T) {
	h := []api.Event{begin(1), read(1, "a", "x"), write(1, "b", "x"), write(1, "a", "y"), write(1, "a", "x"), abort(1), write(2, "a", "x"), write(2, "", ""), {Kind: api.EBegin, Key: "c", Val: "z"}, {Kind: 259, Key: "c", Val: "z"}}
	for _, c := range []struct {
		key, val string
		want     int
	}{
		{"b", "x", 2}, {"a", "y", 3}, {"a", "x", 4}, {"", "", 7},
		{"b", "y", -1}, {"a", "", -1}, {"", "x", -1}, {"x", "a", -1}, {"c", "z", -1}, {"ax", "", -1}, {"a", "xx", -1},
	} {
		if at := Writer(h, c.key, c.val); at != c.want {
			t.Errorf("Writer of %q, %q: %d, want %d", c.key, c.val, at, c.want)
		}
	}
	if at := Writer(nil, "a", "x"); at != -1 {
		t.Errorf("Writer of nothing: %d", at)
	}
	if at := Writer([]api.Event{write(1, "a", "x")}, "a", "x"); at != 0 {
		t.Errorf("the first place: %d", at)
	}
}

// P8.3: a transaction's last write of a key ahead of a place: of all places, and of those that are none.
func TestLast(t *testing.T) {
	h := []api.Event{write(1, "a", "p"), write(2, "a", "q"), write(1, "b", "r"), write(1, "a", "s"), commit(1), read(1, "a", "s"), write(1, "a", "t")}
	for _, c := range []struct {
		txn          int
		key          string
		before, want int
	}{
		{1, "a", math.MinInt, -1}, {1, "a", -1, -1}, {1, "a", 0, -1}, {1, "a", 1, 0}, {1, "a", 2, 0}, {1, "a", 3, 0}, {1, "a", 4, 3},
		{1, "a", 5, 3}, {1, "a", 6, 3}, {1, "a", 7, 6}, {1, "a", 8, 6}, {1, "a", math.MaxInt, 6},
		{1, "b", 2, -1}, {1, "b", 3, 2}, {1, "b", 7, 2}, {2, "a", 1, -1}, {2, "a", 2, 1}, {2, "a", 7, 1},
		{2, "b", 7, -1}, {3, "a", 7, -1}, {0, "a", 7, -1}, {1, "", 7, -1}, {1, "c", math.MaxInt, -1},
	} {
		if at := Last(h, c.txn, c.key, c.before); at != c.want {
			t.Errorf("Last of %d, %q ahead of %d: %d, want %d", c.txn, c.key, c.before, at, c.want)
		}
	}
	for _, before := range []int{-1, 0, 1, math.MaxInt} {
		if at := Last(nil, 1, "a", before); at != -1 {
			t.Errorf("Last of nothing: %d", at)
		}
	}
}

// P8.3: versions are those of committed transactions, by their ends, of each one its last write ahead of that.
func TestVersions(t *testing.T) {
	for _, c := range []struct {
		what string
		h    []api.Event
		want []int
	}{
		{"nothing", nil, nil},
		{"the example", []api.Event{begin(1), write(1, "a", "x"), commit(1)}, []int{1}},
		{"by their ends, not by their writes", []api.Event{begin(1), begin(2), begin(3), write(1, "a", "x"), write(2, "a", "y"), write(3, "a", "z"), commit(3), commit(1), commit(2)}, []int{5, 3, 4}},
		{"of each the last", []api.Event{begin(1), write(1, "a", "x"), write(1, "a", "y"), write(1, "b", "z"), write(1, "a", "w"), commit(1)}, []int{4}},
		{"not of what was given up", []api.Event{begin(1), begin(2), write(1, "a", "x"), write(2, "a", "y"), abort(1), commit(2)}, []int{3}},
		{"not of what doesn't end", []api.Event{begin(1), write(1, "a", "x"), begin(2), commit(2)}, nil},
		{"of other keys none", []api.Event{begin(1), write(1, "b", "x"), read(1, "a", ""), commit(1)}, nil},
		{"not behind the end", []api.Event{begin(1), write(1, "a", "x"), commit(1), write(1, "a", "y")}, []int{1}},
		{"only behind the end", []api.Event{begin(1), commit(1), write(1, "a", "y"), commit(1)}, nil},
		{"a commit behind an abort", []api.Event{begin(1), write(1, "a", "x"), abort(1), write(1, "a", "y"), commit(1)}, nil},
		{"two commits", []api.Event{begin(1), write(1, "a", "x"), commit(1), commit(1), abort(1)}, []int{1}},
		{"an abort behind a commit", []api.Event{write(1, "a", "x"), commit(1), abort(1)}, []int{0}},
	} {
		if l := Versions(c.h, "a"); !slices.Equal(l, c.want) {
			t.Errorf("%s: %v", c.what, l)
		}
	}
	h := []api.Event{write(-5, "", "x"), commit(-5), write(7, "\xff", ""), commit(7)}
	if l := Versions(h, ""); !slices.Equal(l, []int{0}) {
		t.Errorf("of the empty key: %v", l)
	}
	if l := Versions(h, "\xff"); !slices.Equal(l, []int{2}) {
		t.Errorf("of an odd key: %v", l)
	}
}

// P8.1 to P8.3: all calls by the document's words, of histories that are well formed, of some that no longer are, and of any events.
func TestByWords(t *testing.T) {
	r := rand.New(rand.NewSource(1))
	errs := map[api.Errno]int{}
	for range 6000 {
		good := goodHistory(r, 1+r.Intn(8), 1+r.Intn(4), 6)
		if n, e := Formed(good); n != len(good) || e != api.OK {
			t.Errorf("%v is well formed: %d, %d", good, n, e)
		}
		heldAgainstWords(t, good)
		bad := marred(r, good)
		_, e := Formed(bad)
		errs[e]++
		heldAgainstWords(t, bad)
		heldAgainstWords(t, oddHistory(r, r.Intn(30), 1+r.Intn(6), 1+r.Intn(9)))
	}
	for _, e := range []api.Errno{api.OK, api.ErrArg, api.ErrNone, api.ErrThere, api.ErrState} {
		if errs[e] < 200 {
			t.Errorf("%d of %d alone", errs[e], e)
		}
	}
	for _, many := range []int{256, 257, 1000} {
		heldAgainstWords(t, oddHistory(r, many, 40, 9))
	}
	heldAgainstWords(t, goodHistory(r, 32, 5, 6))
}

// P8.2, P8.3: without a bound a long history must be gone through in time, of however many transactions.
func TestManyTransactions(t *testing.T) {
	const many = 100000
	var h []api.Event
	for i := range many {
		h = append(h, write(i, "a", "x"))
	}
	for i := range many {
		h = append(h, commit(many-1-i))
	}
	lives, versions := Lives(h), Versions(h, "a")
	if len(lives) != many || len(versions) != many {
		t.Fatalf("%d, %d", len(lives), len(versions))
	}
	for i := range many {
		if lives[i] != (api.Life{Txn: i, From: i, To: 2*many - 1 - i, Committed: true}) || versions[i] != many-1-i {
			t.Fatalf("%d: %v, %d", i, lives[i], versions[i])
		}
	}
}

// P8.4: in what is well formed a value is written once, and each transaction has one beginning ahead of all its events and one end behind them.
func TestWellFormed(t *testing.T) {
	r := rand.New(rand.NewSource(2))
	seen := 0
	for range 20000 {
		h := goodHistory(r, r.Intn(6), 1+r.Intn(3), 4)
		if r.Intn(2) == 0 {
			h = marred(r, h)
		}
		if _, e := Formed(h); e != api.OK {
			continue
		}
		seen++
		written := map[string]int{}
		for i, x := range h {
			if x.Kind == api.EWrite {
				written[x.Val]++
				if written[x.Val] > 1 || Writer(h, x.Key, x.Val) != i {
					t.Errorf("%v: %q is written twice", h, x.Val)
				}
			}
			one, is := Find(h, x.Txn)
			if !is || one.To >= len(h) || (x.Kind == api.EBegin) != (one.From == i) || (x.Kind >= api.ECommit) != (one.To == i) || i < one.From || i > one.To {
				t.Errorf("%v: the event at %d, of %v", h, i, one)
			}
		}
	}
	if seen < 10000 {
		t.Errorf("%d are well formed", seen)
	}
}

// P8.4: what is left of a well formed history, if some events behind are left out, may be none: an end is missing, or what was read.
func TestBeginnings(t *testing.T) {
	h := []api.Event{begin(1), read(1, "a", "x"), commit(1), begin(2), write(2, "a", "x"), commit(2)}
	for many, want := range []struct {
		n int
		e api.Errno
	}{{0, api.OK}, {1, api.ErrState}, {1, api.ErrNone}, {1, api.ErrNone}, {1, api.ErrNone}, {5, api.ErrState}, {6, api.OK}} {
		if n, e := Formed(h[:many]); n != want.n || e != want.e {
			t.Errorf("the first %d: %d, %d, want %d, %d", many, n, e, want.n, want.e)
		}
	}
}

// R3, R4: what is handed in stays as it was, what comes out is new, and no call remembers another one.
func TestNothingIsKept(t *testing.T) {
	r := rand.New(rand.NewSource(3))
	h, other := goodHistory(r, 9, 4, 6), oddHistory(r, 40, 6, 9)
	before := slices.Clone(h)
	// Behind the history stands what isn't its own: it must stay, too.
	behind := append(slices.Clone(h), begin(7), commit(7))
	lives, keys, versions := Lives(behind[:len(h)]), Keys(behind[:len(h)]), Versions(behind[:len(h)], "k0")
	n, e := Formed(behind[:len(h)])
	if behind[len(h)] != begin(7) || behind[len(h)+1] != commit(7) || len(versions) == 0 || n != len(h) || e != api.OK {
		t.Error("what stands behind a history is read, or written into")
	}
	heldAgainstWords(t, other)
	for i := range lives {
		lives[i] = api.Life{Txn: -9, To: -9}
	}
	for i := range keys {
		keys[i] = "changed"
	}
	for i := range versions {
		versions[i] = -9
	}
	if !slices.Equal(h, before) {
		t.Error("the history is written into")
	}
	heldAgainstWords(t, h)
}
