package judge

import (
	"fmt"
	"math"
	"math/rand"
	"slices"
	"testing"

	"cartouche/api"
	"cartouche/edges"
	"cartouche/history"
	"cartouche/ring"
	"cartouche/taint"
)

var levels = []int{api.Serial, api.Snapshot}

func begin(txn int) api.Event  { return api.Event{Kind: api.EBegin, Txn: txn} }
func commit(txn int) api.Event { return api.Event{Kind: api.ECommit, Txn: txn} }
func abort(txn int) api.Event  { return api.Event{Kind: api.EAbort, Txn: txn} }

func read(txn int, key, val string) api.Event {
	return api.Event{Kind: api.ERead, Txn: txn, Key: key, Val: val}
}

func write(txn int, key, val string) api.Event {
	return api.Event{Kind: api.EWrite, Txn: txn, Key: key, Val: val}
}

func edge(kind, from, to, i, j int) api.Edge {
	return api.Edge{Kind: kind, From: from, To: to, I: i, J: j}
}

// accepted, tainted and round are the three kinds of verdicts.
func accepted(level int, order ...int) api.Verdict {
	return api.Verdict{Level: level, Accept: true, Order: order}
}

func tainted(level, kind, i, j int) api.Verdict {
	return api.Verdict{Level: level, Bad: api.Bad{Kind: kind, I: i, J: j}}
}

func round(level int, l ...api.Edge) api.Verdict {
	return api.Verdict{Level: level, Ring: l}
}

// alike holds two verdicts against each other without the package's own Same: by all that can be printed of them (a list without elements is printed in one way, nil or not).
func alike(a, b api.Verdict) bool {
	return fmt.Sprintf("%+v", a) == fmt.Sprintf("%+v", b)
}

// plainJudge is P12.1 by its words: it finds out one by one, and asks for a ring ahead of an order.
func plainJudge(h []api.Event, level int) (api.Verdict, api.Errno) {
	if level < 1 || level > 2 {
		return api.Verdict{}, api.ErrArg
	}
	if _, e := history.Formed(h); e != api.OK {
		return api.Verdict{}, e
	}
	if all := taint.All(h); len(all) > 0 {
		return api.Verdict{Level: level, Bad: all[0]}, api.OK
	}
	steps := edges.Steps(level, edges.All(h))
	if found, is := ring.Ring(steps); is {
		v := api.Verdict{Level: level}
		for _, s := range found {
			for _, e := range s.E {
				v.Ring = append(v.Ring, e)
			}
		}
		return v, api.OK
	}
	order, _ := ring.Order(edges.Nodes(h), steps)
	return api.Verdict{Level: level, Accept: true, Order: order}, api.OK
}

// replay runs transactions of a well formed history again: what is committed so far, and how many versions each key has.
type replay struct {
	h      []api.Event
	state  map[string]string
	number map[string]int
}

func newReplay(h []api.Event) *replay {
	return &replay{h: h, state: map[string]string{}, number: map[string]int{}}
}

// sees: would a transaction that begins now read what it did read?
func (p *replay) sees(txn int) bool {
	own := map[string]string{}
	for _, x := range p.h {
		if x.Txn != txn {
			continue
		}
		if x.Kind == api.EWrite {
			own[x.Key] = x.Val
		}
		val, is := own[x.Key]
		if !is {
			val = p.state[x.Key]
		}
		if x.Kind == api.ERead && x.Val != val {
			return false
		}
	}
	return true
}

// last is what a transaction wrote last of each key.
func (p *replay) last(txn int) map[string]string {
	last := map[string]string{}
	for _, x := range p.h {
		if x.Kind == api.EWrite && x.Txn == txn {
			last[x.Key] = x.Val
		}
	}
	return last
}

// put commits a transaction, if what it wrote is each key's next version; back takes it back.
func (p *replay) put(txn int) (back func(), is bool) {
	last := p.last(txn)
	for key, val := range last {
		versions := history.Versions(p.h, key)
		if p.h[versions[p.number[key]]].Val != val {
			return nil, false
		}
	}
	was := map[string]string{}
	for key, val := range last {
		was[key] = p.state[key]
		p.state[key] = val
		p.number[key]++
	}
	return func() {
		for key, val := range was {
			p.state[key] = val
			p.number[key]--
		}
	}, true
}

// serial: can the committed transactions be run one behind the other, such that all read what they did, and keys have their versions in that order?
func serial(h []api.Event) bool {
	p := newReplay(h)
	var run func(left []int) bool
	run = func(left []int) bool {
		for i, txn := range left {
			if !p.sees(txn) {
				continue
			}
			back, is := p.put(txn)
			if !is {
				continue
			}
			if run(slices.Delete(slices.Clone(left), i, i+1)) {
				return true
			}
			back()
		}
		return len(left) == 0
	}
	return run(edges.Nodes(h))
}

// snapshot: can they be run side by side, such that each reads what was committed where it began, and none is committed if a key of its writes got another version since?
func snapshot(h []api.Event) bool {
	p := newReplay(h)
	began := map[int]map[string]int{}
	var run func(waiting, running []int) bool
	begins := func(waiting, running []int) bool {
		for i, txn := range waiting {
			if !p.sees(txn) {
				continue
			}
			began[txn] = map[string]int{}
			for key := range p.last(txn) {
				began[txn][key] = p.number[key]
			}
			if run(slices.Delete(slices.Clone(waiting), i, i+1), append(slices.Clone(running), txn)) {
				return true
			}
		}
		return false
	}
	ends := func(waiting, running []int) bool {
		for i, txn := range running {
			late := false
			for key, number := range began[txn] {
				late = late || p.number[key] != number
			}
			if late {
				continue
			}
			back, is := p.put(txn)
			if !is {
				continue
			}
			if run(waiting, slices.Delete(slices.Clone(running), i, i+1)) {
				return true
			}
			back()
		}
		return false
	}
	run = func(waiting, running []int) bool {
		return len(waiting)+len(running) == 0 || begins(waiting, running) || ends(waiting, running)
	}
	return run(edges.Nodes(h), nil)
}

// seen counts, level by level, what the tests went through, so that none of them says nothing.
type seen struct {
	accepted, tainted, round [3]int
	errors                   map[api.Errno]int
	apart                    int // refused as Serial, accepted as Snapshot
}

func (s *seen) add(v api.Verdict, e api.Errno) {
	switch {
	case e != api.OK:
		if s.errors == nil {
			s.errors = map[api.Errno]int{}
		}
		s.errors[e]++
	case v.Accept:
		s.accepted[v.Level]++
	case v.Bad.Kind != api.BNone:
		s.tainted[v.Level]++
	default:
		s.round[v.Level]++
	}
}

func (s *seen) often(t *testing.T, least int) {
	t.Helper()
	for _, level := range levels {
		for _, n := range []int{s.accepted[level], s.tainted[level], s.round[level]} {
			if n < least {
				t.Errorf("too seldom: %+v", s)
				return
			}
		}
	}
}

// heldAgainstWords holds Judge of a history, at both levels, against the document's words.
func heldAgainstWords(t *testing.T, h []api.Event, s *seen) [3]api.Verdict {
	t.Helper()
	var both [3]api.Verdict
	for _, level := range levels {
		v, e := Judge(h, level)
		if want, wantE := plainJudge(h, level); e != wantE || !alike(v, want) {
			t.Fatalf("Judge of %v at %d: %+v, %d, want %+v, %d", h, level, v, e, want, wantE)
		}
		s.add(v, e)
		both[level] = v
	}
	return both
}

// heldAgainstRuns holds verdicts on a well formed history against its runs (P12.2).
func heldAgainstRuns(t *testing.T, h []api.Event, s *seen) {
	t.Helper()
	both := heldAgainstWords(t, h, s)
	if is := serial(h); is != both[api.Serial].Accept {
		t.Fatalf("%v: serial is %t, and %+v", h, is, both[api.Serial])
	}
	if is := snapshot(h); is != both[api.Snapshot].Accept {
		t.Fatalf("%v: snapshot is %t, and %+v", h, is, both[api.Snapshot])
	}
	if both[api.Serial].Accept && !both[api.Snapshot].Accept {
		t.Fatalf("%v: accepted as Serial, not as Snapshot", h)
	}
	if !both[api.Serial].Accept && both[api.Snapshot].Accept {
		s.apart++
	}
	if v := both[api.Serial]; v.Accept {
		p := newReplay(h)
		for _, txn := range v.Order {
			if !p.sees(txn) {
				t.Fatalf("%v: in the order %v %d reads something else", h, v.Order, txn)
			}
			if _, is := p.put(txn); !is {
				t.Fatalf("%v: in the order %v versions go back", h, v.Order)
			}
		}
	}
}

// wellFormed has some transactions, one of which in six is given up, over some keys; about one read in so many sees what it should not see.
func wellFormed(r *rand.Rand, txns, most, keys, odd int) []api.Event {
	var h []api.Event
	open := r.Perm(txns)
	for i := range open {
		open[i]++
		h = append(h, begin(open[i]))
	}
	for n := range r.Intn(most + 1) {
		txn, key := open[r.Intn(len(open))], string(rune('a'+r.Intn(keys)))
		h = append(h, []api.Event{read(txn, key, ""), read(txn, key, ""), write(txn, key, fmt.Sprint("v", n))}[r.Intn(3)])
		if len(open) > 1 && r.Intn(2*txns) == 0 {
			h = append(h, end(r, txn))
			open = slices.DeleteFunc(open, func(x int) bool { return x == txn })
		}
	}
	for _, txn := range open {
		h = append(h, end(r, txn))
	}
	for i, x := range h {
		if x.Kind == api.ERead {
			h[i].Val = seenVal(r, h, i, odd)
		}
	}
	return h
}

func end(r *rand.Rand, txn int) api.Event {
	if r.Intn(6) == 0 {
		return abort(txn)
	}
	return commit(txn)
}

// seenVal is a value that a read may see: its own last write, else what was there at first or a version of another one; or an odd one.
func seenVal(r *rand.Rand, h []api.Event, i, odd int) string {
	vals := []string{""}
	if r.Intn(odd) == 0 {
		for _, x := range h {
			if x.Kind == api.EWrite && x.Key == h[i].Key {
				vals = append(vals, x.Val)
			}
		}
		return vals[r.Intn(len(vals))]
	}
	if own := history.Last(h, h[i].Txn, h[i].Key, i); own >= 0 {
		return h[own].Val
	}
	for _, place := range history.Versions(h, h[i].Key) {
		if h[place].Txn != h[i].Txn {
			vals = append(vals, h[place].Val)
		}
	}
	return vals[r.Intn(len(vals))]
}

// marred changes one event, leaves one out, or puts one in twice.
func marred(r *rand.Rand, h []api.Event) []api.Event {
	h = slices.Clone(h)
	i := r.Intn(len(h))
	switch r.Intn(5) {
	case 0:
		return slices.Delete(h, i, i+1)
	case 1:
		return slices.Insert(h, i, h[r.Intn(len(h))])
	case 2:
		h[i].Kind = r.Intn(8) - 1
	case 3:
		h[i].Txn = []int{-1, 0, 1, 2, 33, math.MinInt}[r.Intn(6)]
	case 4:
		h[i].Val = []string{"", "v0", "nobody's"}[r.Intn(3)]
	}
	return h
}

// P12.1: each kind of verdict, whole, at both levels; the document's examples among them.
func TestJudge(t *testing.T) {
	for _, c := range []struct {
		what                 string
		h                    []api.Event
		asSerial, asSnapshot api.Verdict
	}{
		{"no event", nil, accepted(1), accepted(2)},
		{"one that did nothing", []api.Event{begin(7), commit(7)}, accepted(1, 7), accepted(2, 7)},
		{"all are given up", []api.Event{begin(1), begin(2), write(1, "a", "x"), read(2, "a", "x"), abort(1), abort(2)}, accepted(1), accepted(2)},
		{"the example of two that read a, and then write it", []api.Event{
			begin(1), begin(2), read(1, "a", ""), read(2, "a", ""), write(1, "a", "x"), write(2, "a", "y"), commit(1), commit(2),
		}, round(1, edge(api.GWrite, 1, 2, 4, 5), edge(api.GOver, 2, 1, 3, 4)), round(2, edge(api.GWrite, 1, 2, 4, 5), edge(api.GOver, 2, 1, 3, 4))},
		{"the same, and the other one ends first", []api.Event{
			begin(1), begin(2), read(1, "a", ""), read(2, "a", ""), write(1, "a", "x"), write(2, "a", "y"), commit(2), commit(1),
		}, round(1, edge(api.GOver, 1, 2, 2, 5), edge(api.GWrite, 2, 1, 5, 4)), round(2, edge(api.GWrite, 2, 1, 5, 4), edge(api.GOver, 1, 2, 2, 5))},
		{"the example of two that read a and b, and write one each", []api.Event{
			begin(1), begin(2), read(1, "a", ""), read(1, "b", ""), read(2, "a", ""), read(2, "b", ""), write(1, "a", "x"), write(2, "b", "y"), commit(1), commit(2),
		}, round(1, edge(api.GOver, 1, 2, 3, 7), edge(api.GOver, 2, 1, 4, 6)), accepted(2, 1, 2)},
		{"the order isn't that of their ends", []api.Event{
			begin(1), begin(2), read(2, "a", ""), write(1, "a", "x"), commit(1), commit(2),
		}, accepted(1, 2, 1), accepted(2, 1, 2)},
		{"the least number first", []api.Event{
			begin(3), begin(1), begin(2), write(3, "a", "x"), commit(3), read(1, "a", "x"), commit(1), commit(2),
		}, accepted(1, 2, 3, 1), accepted(2, 2, 3, 1)},
		{"one that is given up has no place", []api.Event{
			begin(1), begin(2), read(1, "a", ""), read(2, "a", ""), write(1, "a", "x"), write(2, "a", "y"), abort(1), commit(2),
		}, accepted(1, 2), accepted(2, 2)},
		{"two that read what the other one wrote", []api.Event{
			begin(5), begin(9), write(5, "a", "x"), write(9, "b", "y"), read(5, "b", "y"), read(9, "a", "x"), commit(9), commit(5),
		}, round(1, edge(api.GRead, 5, 9, 2, 5), edge(api.GRead, 9, 5, 3, 4)), round(2, edge(api.GRead, 5, 9, 2, 5), edge(api.GRead, 9, 5, 3, 4))},
		{"versions of two keys, one of which was read ahead", []api.Event{
			begin(1), begin(2), write(1, "a", "x"), write(1, "b", "y"), write(2, "a", "z"), read(2, "b", ""), commit(1), commit(2),
		}, round(1, edge(api.GWrite, 1, 2, 2, 4), edge(api.GOver, 2, 1, 5, 3)), round(2, edge(api.GWrite, 1, 2, 2, 4), edge(api.GOver, 2, 1, 5, 3))},
		{"two that see two writes in unlike orders", []api.Event{
			begin(1), begin(2), begin(3), begin(4), write(1, "a", "x"), write(2, "b", "y"), commit(1), commit(2),
			read(3, "a", "x"), read(3, "b", ""), read(4, "a", ""), read(4, "b", "y"), commit(3), commit(4),
		}, round(1, edge(api.GRead, 1, 3, 4, 8), edge(api.GOver, 3, 2, 9, 5), edge(api.GRead, 2, 4, 5, 11), edge(api.GOver, 4, 1, 10, 4)),
			round(2, edge(api.GRead, 1, 3, 4, 8), edge(api.GOver, 3, 2, 9, 5), edge(api.GRead, 2, 4, 5, 11), edge(api.GOver, 4, 1, 10, 4))},
		{"one that reads what was there ahead of one that has ended: nothing asks for more", []api.Event{
			begin(1), write(1, "a", "x"), commit(1), begin(2), read(2, "a", ""), commit(2),
		}, accepted(1, 2, 1), accepted(2, 1, 2)},

		{"of one that was given up", []api.Event{begin(1), begin(2), write(1, "a", "x"), read(2, "a", "x"), abort(1), commit(2)}, tainted(1, api.BAbort, 3, 2), tainted(2, api.BAbort, 3, 2)},
		{"of one that wrote it again", []api.Event{begin(1), begin(2), write(1, "a", "x"), read(2, "a", "x"), write(1, "a", "y"), commit(1), commit(2)}, tainted(1, api.BMiddle, 3, 4), tainted(2, api.BMiddle, 3, 4)},
		{"not its own", []api.Event{begin(1), write(1, "a", "x"), read(1, "a", ""), commit(1)}, tainted(1, api.BOwn, 2, 1), tainted(2, api.BOwn, 2, 1)},
		{"its own, later", []api.Event{begin(1), read(1, "a", "x"), write(1, "a", "x"), commit(1)}, tainted(1, api.BLater, 1, 2), tainted(2, api.BLater, 1, 2)},
		{"the first of two", []api.Event{begin(1), write(1, "a", "x"), read(1, "a", ""), read(1, "b", "y"), write(1, "b", "y"), commit(1)}, tainted(1, api.BOwn, 2, 1), tainted(2, api.BOwn, 2, 1)},
		{"the first of two, the other way round", []api.Event{begin(1), read(1, "b", "y"), write(1, "a", "x"), read(1, "a", ""), write(1, "b", "y"), commit(1)}, tainted(1, api.BLater, 1, 4), tainted(2, api.BLater, 1, 4)},
		{"tainted behind a ring", []api.Event{
			begin(1), begin(2), read(1, "a", ""), read(2, "a", ""), write(1, "a", "x"), write(2, "a", "y"), read(2, "a", "x"), commit(1), commit(2),
		}, tainted(1, api.BOwn, 6, 5), tainted(2, api.BOwn, 6, 5)},
		{"a taint of one that was given up is none", []api.Event{begin(1), write(1, "a", "x"), read(1, "a", ""), abort(1), begin(2), commit(2)}, accepted(1, 2), accepted(2, 2)},
	} {
		for _, want := range []api.Verdict{c.asSerial, c.asSnapshot} {
			if v, e := Judge(c.h, want.Level); e != api.OK || !alike(v, want) {
				t.Errorf("%s: %+v, %d, want %+v", c.what, v, e, want)
			}
		}
		heldAgainstRuns(t, c.h, &seen{})
	}
}

// P12.1: which of several rings is told: the one with the fewest steps, then the one that begins at the least number; of a Snapshot's steps one alone may be a ring of two edges.
func TestWhichRing(t *testing.T) {
	h := []api.Event{
		0: begin(1), 1: begin(2), 2: begin(3), 3: begin(4), 4: begin(5),
		5: write(1, "a", "x"), 6: write(2, "b", "y"), 7: write(3, "c", "z"), 8: read(2, "a", "x"), 9: read(3, "b", "y"), 10: read(1, "c", "z"),
		11: write(4, "d", "u"), 12: write(5, "e", "v"), 13: read(4, "e", "v"), 14: read(5, "d", "u"),
		15: commit(1), 16: commit(2), 17: commit(3), 18: commit(4), 19: commit(5),
	}
	three := []api.Edge{edge(api.GRead, 1, 2, 5, 8), edge(api.GRead, 2, 3, 6, 9), edge(api.GRead, 3, 1, 7, 10)}
	two := []api.Edge{edge(api.GRead, 4, 5, 11, 14), edge(api.GRead, 5, 4, 12, 13)}
	// 5 saw what was there ahead of what 4 wrote, and 4 what 5 wrote: no ring but the one of three.
	open := slices.Clone(h)
	open[14] = read(5, "d", "")
	// 4 saw what 5 wrote, and ahead of that what 5 wrote over: a ring of two edges, which is one step of a Snapshot.
	torn := slices.Clone(h)
	torn[14] = read(4, "e", "")
	// 2 saw what 3 wrote, too: two rings of two.
	both := slices.Clone(h)
	both[10] = read(2, "c", "z")
	for _, c := range []struct {
		what                 string
		h                    []api.Event
		asSerial, asSnapshot []api.Edge
	}{
		{"the fewest steps", h, two, two},
		{"one alone", open, three, three},
		{"the least number", both, []api.Edge{edge(api.GRead, 2, 3, 6, 9), edge(api.GRead, 3, 2, 7, 10)}, []api.Edge{edge(api.GRead, 2, 3, 6, 9), edge(api.GRead, 3, 2, 7, 10)}},
		{"one step", torn, []api.Edge{edge(api.GOver, 4, 5, 14, 12), edge(api.GRead, 5, 4, 12, 13)}, []api.Edge{edge(api.GRead, 5, 4, 12, 13), edge(api.GOver, 4, 5, 14, 12)}},
	} {
		for _, want := range []api.Verdict{round(api.Serial, c.asSerial...), round(api.Snapshot, c.asSnapshot...)} {
			if v, e := Judge(c.h, want.Level); e != api.OK || !alike(v, want) {
				t.Errorf("%s: %+v, %d, want %+v", c.what, v, e, want)
			}
		}
	}
}

// P12.1, R1, R2: what is refused, what is refused first, and that nothing is told beside.
func TestJudgeRefuses(t *testing.T) {
	good := []api.Event{begin(1), write(1, "a", "x"), read(1, "a", "x"), commit(1)}
	long := []api.Event{begin(1)}
	for range api.MaxEvents - 1 {
		long = append(long, read(1, "a", ""))
	}
	long = append(long, commit(1))
	cases := []struct {
		what string
		h    []api.Event
		want api.Errno
	}{
		{"too many", long, api.ErrBig},
		{"one of no kind", []api.Event{begin(1), {Kind: 6, Txn: 1}, commit(1)}, api.ErrArg},
		{"one that may not be", []api.Event{begin(33), commit(33)}, api.ErrArg},
		{"begins twice", []api.Event{begin(1), begin(1), commit(1)}, api.ErrThere},
		{"a value twice", []api.Event{begin(1), write(1, "a", "x"), write(1, "b", "x"), commit(1)}, api.ErrThere},
		{"doesn't begin", []api.Event{commit(1)}, api.ErrNone},
		{"nobody's value", []api.Event{begin(1), read(1, "a", "x"), commit(1)}, api.ErrNone},
		{"behind its end", []api.Event{begin(1), commit(1), write(1, "a", "x")}, api.ErrState},
		{"doesn't end", []api.Event{begin(1), begin(2), commit(1)}, api.ErrState},
		{"tainted, and doesn't end", []api.Event{begin(1), write(1, "a", "x"), read(1, "a", ""), commit(1), begin(2)}, api.ErrState},
	}
	for _, c := range cases {
		for _, level := range levels {
			if v, e := Judge(c.h, level); e != c.want || !alike(v, api.Verdict{}) {
				t.Errorf("%s at %d: %+v, %d, want %d", c.what, level, v, e, c.want)
			}
		}
	}
	for _, level := range []int{math.MinInt, -2, -1, 0, 3, 4, 257, 258, 1<<32 + 1, 1<<32 + 2, math.MaxInt} {
		if v, e := Judge(good, level); e != api.ErrArg || !alike(v, api.Verdict{}) {
			t.Errorf("of the level %d: %+v, %d", level, v, e)
		}
		for _, c := range cases {
			if v, e := Judge(c.h, level); e != api.ErrArg || !alike(v, api.Verdict{}) {
				t.Errorf("%s at the level %d: %+v, %d", c.what, level, v, e)
			}
		}
	}
	if v, e := Judge(slices.Delete(slices.Clone(long), 1, 2), api.Serial); e != api.OK || !alike(v, accepted(1, 1)) {
		t.Errorf("of as many as there may be: %+v, %d", v, e)
	}
}

// P12.1: Flat.
func TestFlat(t *testing.T) {
	a, b, c := edge(api.GWrite, 1, 2, 3, 4), edge(api.GOver, 2, 5, 6, 7), edge(-9, math.MinInt, math.MaxInt, -1, 1<<40)
	for _, x := range []struct {
		what string
		l    []api.Step
		want []api.Edge
	}{
		{"none", nil, nil},
		{"no step", []api.Step{}, nil},
		{"steps without edges", []api.Step{{From: 1, To: 2}, {From: 2, To: 1, E: []api.Edge{}}}, nil},
		{"one", []api.Step{{From: 1, To: 2, E: []api.Edge{a}}}, []api.Edge{a}},
		{"two of one", []api.Step{{From: 1, To: 5, E: []api.Edge{a, b}}}, []api.Edge{a, b}},
		{"in order, the same one as often as it is there", []api.Step{{E: []api.Edge{c, a}}, {}, {From: 7, E: []api.Edge{b}}, {E: []api.Edge{a, a, c}}}, []api.Edge{c, a, b, a, a, c}},
	} {
		if l := Flat(x.l); !slices.Equal(l, x.want) {
			t.Errorf("%s: %v, want %v", x.what, l, x.want)
		}
	}
}

// P12.1: Same of verdicts that differ in one thing.
func TestSame(t *testing.T) {
	make1 := func() api.Verdict {
		return api.Verdict{Level: 1, Accept: true, Order: []int{3, 1, 2}, Bad: api.Bad{Kind: 1, I: 2, J: 3}, Ring: []api.Edge{edge(1, 2, 3, 4, 5), edge(2, 3, 2, 6, 7)}}
	}
	changes := []func(v *api.Verdict){
		func(v *api.Verdict) {},
		func(v *api.Verdict) { v.Level = 2 },
		func(v *api.Verdict) { v.Level = math.MinInt },
		func(v *api.Verdict) { v.Accept = false },
		func(v *api.Verdict) { v.Order = nil },
		func(v *api.Verdict) { v.Order = v.Order[:2] },
		func(v *api.Verdict) { v.Order = append(v.Order, 0) },
		func(v *api.Verdict) { v.Order[0] = 4 },
		func(v *api.Verdict) { v.Order[2] = 4 },
		func(v *api.Verdict) { slices.Sort(v.Order) },
		func(v *api.Verdict) { v.Bad.Kind = 0 },
		func(v *api.Verdict) { v.Bad.I = 3 },
		func(v *api.Verdict) { v.Bad.J = 2 },
		func(v *api.Verdict) { v.Bad = api.Bad{} },
		func(v *api.Verdict) { v.Ring = nil },
		func(v *api.Verdict) { v.Ring = v.Ring[:1] },
		func(v *api.Verdict) { v.Ring = append(v.Ring, api.Edge{}) },
		func(v *api.Verdict) { slices.Reverse(v.Ring) },
		func(v *api.Verdict) { v.Ring[0].Kind = 2 },
		func(v *api.Verdict) { v.Ring[0].From = 3 },
		func(v *api.Verdict) { v.Ring[1].To = 3 },
		func(v *api.Verdict) { v.Ring[1].I = 5 },
		func(v *api.Verdict) { v.Ring[1].J = -7 },
		func(v *api.Verdict) { *v = api.Verdict{} },
	}
	for i, one := range changes {
		for j, other := range changes {
			a, b := make1(), make1()
			one(&a)
			other(&b)
			if is := Same(a, b); is != (i == j) {
				t.Errorf("%+v and %+v: %t", a, b, is)
			}
		}
	}
	if !Same(api.Verdict{}, api.Verdict{Order: []int{}, Ring: []api.Edge{}}) || !Same(api.Verdict{Order: []int{}, Ring: []api.Edge{}}, api.Verdict{}) {
		t.Error("a list without elements is not the same as another one")
	}
}

// rows calls do with each row of at most so many of the events.
func rows(events []api.Event, most int, do func(h []api.Event)) {
	h := make([]api.Event, 0, most)
	var longer func()
	longer = func() {
		do(h)
		if len(h) == most {
			return
		}
		for _, x := range events {
			h = append(h, x)
			longer()
			h = h[:len(h)-1]
		}
	}
	longer()
}

// P12.1, P12.2: of each well formed history of two transactions with a short row of reads and writes between their beginnings and ends: the words, and whether it can be run so.
func TestShortRows(t *testing.T) {
	var events []api.Event
	for txn := 1; txn <= 2; txn++ {
		events = append(events, read(txn, "a", ""), read(txn, "a", "x"), read(txn, "b", ""), write(txn, "a", "x"), write(txn, "a", "y"), write(txn, "b", "z"))
	}
	s := &seen{}
	rows(events, 4, func(middle []api.Event) {
		for _, ends := range [][]api.Event{{commit(1), commit(2)}, {commit(2), commit(1)}, {abort(1), commit(2)}} {
			h := slices.Concat([]api.Event{begin(1), begin(2)}, middle, ends)
			if _, e := history.Formed(h); e == api.OK {
				heldAgainstRuns(t, h, s)
			}
		}
	})
	s.often(t, 100)
	if s.apart < 4 {
		t.Errorf("too seldom: %+v", s)
	}
}

// skewed has transactions that begin together, read some keys, mostly as they were at first, and write mostly one each: so it is often a snapshot, and not serial.
func skewed(r *rand.Rand, txns int) []api.Event {
	var h, ends []api.Event
	for txn := 1; txn <= txns; txn++ {
		h, ends = append(h, begin(txn)), append(ends, end(r, txn))
	}
	key := func(n int) string { return fmt.Sprint("k", n) }
	for _, n := range r.Perm(3 * txns) {
		txn, own := n/3+1, n/3
		if r.Intn(8) == 0 {
			own = r.Intn(txns)
		}
		h = append(h, []api.Event{read(txn, key(r.Intn(txns)), ""), read(txn, key(r.Intn(txns)), ""), write(txn, key(own), fmt.Sprint("v", n))}[n%3])
	}
	r.Shuffle(len(ends), func(i, j int) { ends[i], ends[j] = ends[j], ends[i] })
	h = append(h, ends...)
	for i, x := range h {
		if x.Kind == api.ERead && (r.Intn(4) == 0 || history.Last(h, x.Txn, x.Key, i) >= 0) {
			h[i].Val = seenVal(r, h, i, 100)
		}
	}
	return h
}

// P12.1, P12.2: the same, of more transactions and keys, at random.
func TestRuns(t *testing.T) {
	r := rand.New(rand.NewSource(1))
	s := &seen{}
	for n := range 12000 {
		h := wellFormed(r, 1+r.Intn(5), 16, 1+r.Intn(4), 30)
		if n%3 == 0 {
			h = skewed(r, 2+r.Intn(3))
		}
		if _, e := history.Formed(h); e != api.OK {
			t.Fatalf("%v: not well formed: %d", h, e)
		}
		heldAgainstRuns(t, h, s)
	}
	s.often(t, 300)
	if s.apart < 300 {
		t.Errorf("too seldom: %+v", s)
	}
}

// P12.1: by the document's words, of longer histories, also of such that are not well formed.
func TestAnyEventsByWords(t *testing.T) {
	r := rand.New(rand.NewSource(2))
	s := &seen{}
	for range 6000 {
		h := wellFormed(r, 1+r.Intn(12), 40, 1+r.Intn(5), 100)
		heldAgainstWords(t, h, s)
		heldAgainstWords(t, marred(r, h), s)
	}
	for range 40 {
		heldAgainstWords(t, wellFormed(r, 32, 192, 1+r.Intn(40), 1000), s)
	}
	s.often(t, 300)
	for _, e := range []api.Errno{api.ErrArg, api.ErrThere, api.ErrNone, api.ErrState} {
		if s.errors[e] < 100 {
			t.Errorf("too seldom: %v", s.errors)
		}
	}
}

// P12.1: the longest rings there are, and an order of all that may be.
func TestManyTransactions(t *testing.T) {
	const many = api.MaxTxn
	name := func(s string, n int) string { return fmt.Sprint(s, (n+many-1)%many+1) }
	frame := func(middle []api.Event) []api.Event {
		var h, ends []api.Event
		for txn := 1; txn <= many; txn++ {
			h, ends = append(h, begin(txn)), append(ends, commit(txn))
		}
		return slices.Concat(h, middle, ends)
	}
	var over, reads []api.Event
	for txn := 1; txn <= many; txn++ {
		over = append(over, read(txn, name("k", txn+1), ""), write(txn, name("k", txn), name("v", txn)))
		reads = append(reads, write(txn, name("k", txn), name("v", txn)), read(txn, name("k", txn-1), name("v", txn-1)))
	}
	if v, e := Judge(frame(over), api.Serial); e != api.OK || v.Accept || len(v.Order) != 0 || len(v.Ring) != many || v.Ring[0] != edge(api.GOver, 1, 2, many, many+3) || v.Ring[many-1].To != 1 {
		t.Errorf("%+v, %d", v, e)
	}
	if v, e := Judge(frame(over), api.Snapshot); e != api.OK || !v.Accept || len(v.Ring) != 0 || len(v.Order) != many || !slices.IsSorted(v.Order) {
		t.Errorf("%+v, %d", v, e)
	}
	for _, level := range levels {
		if v, e := Judge(frame(reads), level); e != api.OK || v.Accept || len(v.Order) != 0 || len(v.Ring) != many || v.Ring[0] != edge(api.GRead, 1, 2, many, many+3) || v.Ring[many-1].To != 1 {
			t.Errorf("%+v, %d", v, e)
		}
		// Without what closes the ring there is an order of all.
		if v, e := Judge(frame(slices.Delete(slices.Clone(reads), 1, 2)), level); e != api.OK || !v.Accept || len(v.Order) != many || !slices.IsSorted(v.Order) {
			t.Errorf("%+v, %d", v, e)
		}
		heldAgainstWords(t, frame(over), &seen{})
	}
}

// R1: as many steps as a history can have, accepted and not.
func TestManySteps(t *testing.T) {
	h := []api.Event{begin(1), write(1, "a", "x"), commit(1), begin(2), begin(3), write(3, "a", "y")}
	for len(h) < api.MaxEvents-2 {
		h = append(h, read(2, "a", "x"))
	}
	h = append(h, commit(2), commit(3))
	for _, level := range levels {
		if v, e := Judge(h, level); e != api.OK || !alike(v, accepted(level, 1, 2, 3)) {
			t.Errorf("%+v, %d", v, e)
		}
	}
	h[api.MaxEvents-3] = read(2, "a", "y")
	for _, level := range levels {
		v, e := Judge(h, level)
		l := []api.Edge{edge(api.GRead, 3, 2, 5, api.MaxEvents-3), edge(api.GOver, 2, 3, 6, 5)}
		if level == api.Serial {
			slices.Reverse(l)
		}
		if e != api.OK || !alike(v, round(level, l...)) {
			t.Errorf("%+v, %d, want %v", v, e, l)
		}
	}
}

// R3, R4: what is handed in stays as it was, what stands behind it isn't read, what comes out is new, and no call remembers another one.
func TestNothingIsKept(t *testing.T) {
	r := rand.New(rand.NewSource(3))
	s := &seen{}
	for range 300 {
		h := wellFormed(r, 1+r.Intn(6), 20, 2, 30)
		before := slices.Clone(h)
		behind := append(slices.Clone(h), begin(32), read(32, "a", ""), write(32, "a", "new"), commit(32))
		for _, level := range levels {
			v, e := Judge(behind[:len(h)], level)
			if want, wantE := plainJudge(h, level); e != wantE || !alike(v, want) {
				t.Fatalf("%v: what stands behind it is read: %+v, %d", h, v, e)
			}
			for i := range v.Order {
				v.Order[i] = -9
			}
			for i := range v.Ring {
				v.Ring[i] = edge(-9, -9, -9, -9, -9)
			}
		}
		if !slices.Equal(behind[:len(h)], before) || behind[len(h)] != begin(32) || behind[len(h)+3] != commit(32) {
			t.Fatalf("%v: the history, or what stands behind it, is written into", h)
		}
		heldAgainstWords(t, h, s)
	}
	s.often(t, 10)
}

// R3, LANGUAGE 7: Flat shares no memory with the steps that are handed in, and Same changes nothing.
func TestFlatIsNew(t *testing.T) {
	a, b := edge(api.GWrite, 1, 2, 3, 4), edge(api.GOver, 2, 5, 6, 7)
	for many := 1; many <= 2; many++ {
		room := append(make([]api.Edge, 0, 8), a, b)
		other := []api.Edge{b}
		l := []api.Step{{From: 1, To: 5, E: room}, {From: 2, To: 5, E: other}}[:many]
		flat := append(Flat(l), edge(-8, -8, -8, -8, -8))
		for i := range flat {
			flat[i].Kind = -9
		}
		if room[0] != a || room[1] != b || room[:3][2] != (api.Edge{}) || other[0] != b {
			t.Errorf("of %d: what was handed in is written into: %v", many, l)
		}
	}
	v := api.Verdict{Order: []int{2, 1}, Ring: []api.Edge{b, a}}
	if !Same(v, v) || !slices.Equal(v.Order, []int{2, 1}) || !slices.Equal(v.Ring, []api.Edge{b, a}) {
		t.Errorf("%+v is written into", v)
	}
}
