package lean

import (
	"fmt"
	"math"
	"math/rand"
	"slices"
	"testing"

	"cartouche/api"
	"cartouche/cert"
	"cartouche/edges"
	"cartouche/judge"
	"cartouche/ring"
	"cartouche/taint"
)

// often says whether the tests went through enough of each kind, so that none of them says nothing.
func often(t *testing.T, least int, counts ...int) {
	t.Helper()
	for _, n := range counts {
		if n < least {
			t.Errorf("too seldom: %v", counts)
			return
		}
	}
}

// mixed changes proofs: what is proved, where, in which order, and how often.
func mixed(r *rand.Rand, l []api.Proof) []api.Proof {
	l = slices.Clone(l)
	for range r.Intn(5) {
		if len(l) == 0 {
			break
		}
		n, m := r.Intn(len(l)), r.Intn(len(l))
		x := &l[n].Event
		switch r.Intn(8) {
		case 0:
			l = slices.Delete(l, n, n+1)
		case 1:
			l[n], l[m] = l[m], l[n]
		case 2:
			l = slices.Insert(l, m, l[n])
		case 3:
			l[n].I = []int{math.MinInt, -2, -1, 0, l[m].I, l[m].I, l[m].I, l[n].I + 1, math.MaxInt}[r.Intn(9)]
		case 4:
			x.Kind = r.Intn(7)
		case 5:
			x.Txn = []int{-1, 0, l[m].Event.Txn, l[m].Event.Txn}[r.Intn(4)]
		case 6:
			x.Val = []string{"", l[m].Event.Val, l[m].Event.Val}[r.Intn(3)]
		case 7:
			x.Key = l[m].Event.Key
		}
	}
	return l
}

// P15.2, P15.3: by the document's words, of proofs of well formed histories and of any proofs: all taints, and all edges between two events, and some between others.
func TestByWords(t *testing.T) {
	r := rand.New(rand.NewSource(1))
	var bads [5]int
	var found [4]int
	for range 15000 {
		l := mixed(r, allOf(wellFormed(r, 1+r.Intn(3), 8, 1+r.Intn(2), 2)))
		k := plainOf(l)
		for _, p := range l {
			for _, q := range l {
				for kind := range 6 {
					b := api.Bad{Kind: kind, I: p.I, J: q.I}
					is, want := Bad(l, b), k.bad(b)
					e := edge(kind, p.Event.Txn, q.Event.Txn, p.I, q.I)
					if r.Intn(8) == 0 {
						e.To = r.Intn(4)
					}
					shows, wantEdge := Edge(l, e), k.edge(e)
					if is != want || shows != wantEdge {
						t.Fatalf("of %v: Bad %v is %t, want %t; Edge %v is %t, want %t", l, b, is, want, e, shows, wantEdge)
					}
					if is {
						bads[kind]++
					}
					if shows {
						found[kind]++
					}
				}
			}
		}
	}
	often(t, 150, append(bads[1:], found[1:]...)...)
}

// shortEvents are few: two transactions that read and write two values of one key, and end, either way.
func shortEvents() []api.Event {
	var l []api.Event
	for txn := 1; txn <= 2; txn++ {
		l = append(l, reads(txn, "a", ""), reads(txn, "a", "x"), writes(txn, "a", "x"), writes(txn, "a", "y"), commits(txn), aborts(txn))
	}
	return l
}

// P15.2, P15.3: by the document's words, of each row of up to four proofs of few events; they stand in their order, in the opposite one, and at two places by turns.
func TestShortRows(t *testing.T) {
	var bads [5]int
	var found [4]int
	try := func(l []api.Proof) {
		k := plainOf(l)
		for i := range len(l) {
			for j := range len(l) {
				for kind := api.BAbort; kind <= api.BLater; kind++ {
					b, e := api.Bad{Kind: kind, I: i, J: j}, edge(kind, 1, 2, i, j)
					if is, want := Bad(l, b), k.bad(b); is != want {
						t.Fatalf("Bad of %v, %v: %t", l, b, is)
					} else if is {
						bads[kind]++
					}
					if is, want := Edge(l, e), k.edge(e); is != want {
						t.Fatalf("Edge of %v, %v: %t", l, e, is)
					} else if is {
						found[kind]++
					}
				}
			}
		}
	}
	var longer func(row []api.Event)
	longer = func(row []api.Event) {
		forth := allOf(row)
		back, turns := slices.Clone(forth), slices.Clone(forth)
		for n := range row {
			back[n].I, turns[n].I = len(row)-1-n, n%2
		}
		try(forth)
		try(back)
		try(turns)
		if len(row) == 4 {
			return
		}
		for _, x := range shortEvents() {
			longer(append(slices.Clone(row), x))
		}
	}
	longer(nil)
	often(t, 10, append(bads[1:], found[1:]...)...)
}

// showing are all edges that proofs show.
func showing(l []api.Proof) []api.Edge {
	var all []api.Edge
	for _, p := range l {
		for _, q := range l {
			for kind := api.GWrite; kind <= api.GOver; kind++ {
				if e := edge(kind, p.Event.Txn, q.Event.Txn, p.I, q.I); Edge(l, e) {
					all = append(all, e)
				}
			}
		}
	}
	return all
}

// P15.5: what proofs of a well formed history show is so: an edge holds (chapter 10), what was seen is tainted (chapter 9). All proofs show all of that.
func TestShownIsSo(t *testing.T) {
	r := rand.New(rand.NewSource(2))
	var bads [5]int
	var found [4]int
	for n := range 3000 {
		h := wellFormed(r, 1+r.Intn(5), 14, 1+r.Intn(3), []int{1, 6, 1000}[n%3])
		all, few := allOf(h), allOf(h)
		few = slices.DeleteFunc(few, func(api.Proof) bool { return r.Intn(8) == 0 })
		for i, x := range h {
			for j, y := range h {
				for kind := range 5 {
					e := edge(kind, x.Txn, y.Txn, i, j)
					holds := edges.Holds(h, e)
					if Edge(all, e) != holds || Edge(few, e) && !holds {
						t.Fatalf("of %v %v holds: %t; Edge: %t, of fewer proofs %t", h, e, holds, Edge(all, e), Edge(few, e))
					}
					if Edge(few, e) {
						found[kind]++
					}
					b := api.Bad{Kind: kind, I: i, J: j}
					at := taint.At(h, i)
					if Bad(all, b) && at.Kind == api.BNone || Bad(few, b) && !Bad(all, b) || at.Kind != api.BNone && at == b && !Bad(all, b) {
						t.Fatalf("of %v %v is %v; Bad: %t, of fewer proofs %t", h, b, at, Bad(all, b), Bad(few, b))
					}
					if Bad(few, b) {
						bads[kind]++
					}
				}
			}
		}
	}
	often(t, 100, append(bads[1:], found[1:]...)...)
}

// closing is the shortest ring of edges that may not be at a level; nothing, if there is none.
func closing(level int, l []api.Edge) []api.Edge {
	steps, _ := ring.Ring(edges.Steps(level, l))
	return judge.Flat(steps)
}

// P15.5: where nothing is tainted, of all edges that all proofs show there is a ring that is taken just if the history isn't good.
func TestRingsOfAllThatIsShown(t *testing.T) {
	r := rand.New(rand.NewSource(3))
	var taken, goods [3]int
	for range 600 {
		h := wellFormed(r, 1+r.Intn(5), 14, 1+r.Intn(3), 1000)
		if len(taint.All(h)) > 0 {
			continue
		}
		all := showing(allOf(h))
		for _, level := range levels {
			c := certOf(h, ringOf(level, closing(level, all)...), placesOf(h)...)
			if is := len(c.V.Ring) == 0; is != good(h, level) {
				t.Fatalf("of %v at %d: the ring %v", h, level, c.V.Ring)
			}
			if e := Check(c, c.Root); (e == api.OK) != (len(c.V.Ring) > 0) {
				t.Fatalf("of %v at %d the ring %v: %d", h, level, c.V.Ring, e)
			}
			if len(c.V.Ring) > 0 {
				taken[level]++
			} else {
				goods[level]++
			}
		}
	}
	often(t, 50, append(taken[1:], goods[1:]...)...)
}

// P15.5: what chapter 14 made, and doesn't accept, is taken; what it accepts is ErrState, and is refused as what it isn't.
func TestMadeIsTaken(t *testing.T) {
	r := rand.New(rand.NewSource(4))
	var bads [5]int
	var rings, accepted [3]int
	for n := range 1500 {
		h := wellFormed(r, 1+r.Intn(6), 24, 1+r.Intn(3), []int{3, 12, 1000}[n%3])
		for _, level := range levels {
			c, e := cert.Make("tenant", 1+r.Intn(1<<20), "", fmt.Sprint("seed", n), h, level)
			if e != api.OK {
				t.Fatalf("of %v: %d", h, e)
			}
			want := api.OK
			if c.V.Accept {
				want = api.ErrState
			}
			if e := Check(c, c.Root); e != want || plainCheck(c, c.Root) != want || Proved(c, c.Root) != api.OK {
				t.Fatalf("of %v %+v: %d, want %d", h, c.V, e, want)
			}
			otherRoot := string([]byte{c.Root[0] + 1}) + c.Root[1:]
			if e := Check(c, otherRoot); e != api.ErrRoot {
				t.Fatalf("by another root: %d", e)
			}
			switch {
			case c.V.Accept:
				accepted[level]++
				c.V.Accept = false
				if e := Check(c, c.Root); e != api.ErrProof {
					t.Fatalf("of %v %+v isn't accepted: %d", h, c.V, e)
				}
			case c.V.Bad.Kind != api.BNone:
				bads[c.V.Bad.Kind]++
			default:
				rings[level]++
			}
		}
	}
	often(t, 40, slices.Concat(bads[1:], rings[1:], accepted[1:])...)
}

// P15.5, R1: the longest histories and rings that are made.
func TestMadeOfManyIsTaken(t *testing.T) {
	const many = api.MaxTxn
	var h, ends []api.Event
	for txn := 1; txn <= many; txn++ {
		h, ends = append(h, begins(txn)), append(ends, commits(txn))
	}
	for txn := 1; txn <= many; txn++ {
		h = append(h, reads(txn, fmt.Sprint("k", txn%many+1), ""), writes(txn, fmt.Sprint("k", txn), fmt.Sprint("v", txn)))
	}
	for len(h)+len(ends) < api.MaxEvents {
		h = append(h, reads(1, "nothing", ""))
	}
	h = append(h, ends...)
	c, e := cert.Make("t", 1, "", "s", h, api.Serial)
	if e != api.OK || len(c.V.Ring) != many || Check(c, c.Root) != api.OK {
		t.Fatalf("%+v, %d", c.V, e)
	}
	c.V.Level = api.Snapshot
	if e := Check(c, c.Root); e != api.ErrProof {
		t.Errorf("at Snapshot: %d", e)
	}
	for n := range many {
		few := c
		few.V.Level, few.V.Ring = api.Serial, slices.Delete(slices.Clone(c.V.Ring), n, n+1)
		if e := Check(few, c.Root); e != api.ErrProof {
			t.Errorf("without the edge %d: %d", n, e)
		}
	}
	r := rand.New(rand.NewSource(5))
	taken := 0
	for range 30 {
		h := wellFormed(r, many, api.MaxEvents-2*many, 1+r.Intn(8), 1000)
		for _, level := range levels {
			c, _ := cert.Make("t", 1, "", "s", h, level)
			if e := Check(c, c.Root); (e == api.OK) == c.V.Accept {
				t.Fatalf("of %v %+v: %d", h, c.V, e)
			}
			if !c.V.Accept {
				taken++
			}
		}
	}
	often(t, 20, taken)
}

// badOf are all that proofs show to have been seen, and should not have been.
func badOf(l []api.Proof) []api.Bad {
	var all []api.Bad
	for _, p := range l {
		for _, q := range l {
			for kind := api.BAbort; kind <= api.BLater; kind++ {
				if b := (api.Bad{Kind: kind, I: p.I, J: q.I}); Bad(l, b) {
					all = append(all, b)
				}
			}
		}
	}
	return all
}

// forged is a certificate that someone made up, mostly of what some proofs of a history show.
func forged(r *rand.Rand, h []api.Event, level int) api.Cert {
	c := certOf(h, api.Verdict{Level: level}, some(r, h, 4+r.Intn(40))...)
	place := func() int { return r.Intn(len(h)) }
	switch all := showing(c.Proofs); r.Intn(7) {
	case 0:
		c.V.Bad = api.Bad{Kind: r.Intn(5), I: place(), J: place()}
	case 1, 2:
		if bads := badOf(c.Proofs); len(bads) > 0 {
			c.V.Bad = bads[r.Intn(len(bads))]
		}
	case 3:
		c.V.Ring = closing(api.Serial, all)
	case 4:
		r.Shuffle(len(all), func(i, j int) { all[i], all[j] = all[j], all[i] })
		c.V.Ring = closing(level, all)
	case 5:
		over := slices.DeleteFunc(all, func(e api.Edge) bool { return e.Kind != api.GOver && r.Intn(2) == 0 })
		c.V.Ring = closing(level, over)
	case 6:
		for n := range 1 + r.Intn(3) {
			x, y := place(), place()
			if n > 0 {
				x = c.V.Ring[n-1].J
			}
			c.V.Ring = append(c.V.Ring, edge(1+r.Intn(3), h[x].Txn, h[y].Txn, x, y))
		}
	}
	if len(c.V.Ring) > 0 && r.Intn(6) == 0 {
		e := &c.V.Ring[r.Intn(len(c.V.Ring))]
		*[]*int{&e.From, &e.To, &e.I, &e.J}[r.Intn(4)] = 1 + r.Intn(6)
	}
	if len(c.Proofs) > 0 && r.Intn(20) == 0 {
		c.Proofs[r.Intn(len(c.Proofs))].Event = h[place()]
	}
	return c
}

// P15.5: whoever made it: what is taken against the root of a well formed history is so of that history. P15.1, P15.4: by the document's words.
func TestTakenIsSo(t *testing.T) {
	r := rand.New(rand.NewSource(6))
	var bads [5]int
	var rings, refused [3]int
	for n := range 1000 {
		h := wellFormed(r, 1+r.Intn(5), 14, 1+r.Intn(2), []int{1, 6, 1000}[n%3])
		for _, level := range levels {
			is := good(h, level)
			_, root := proved(h)
			for range 5 {
				c := forged(r, h, level)
				e := Check(c, root)
				if want := plainCheck(c, root); e != want {
					t.Fatalf("of %v Check of %+v: %d, want %d", h, c, e, want)
				}
				switch {
				case e == api.OK && is:
					t.Fatalf("of %v %+v is taken, and isn't so", h, c)
				case e != api.OK:
					refused[level]++
				case c.V.Bad.Kind != api.BNone:
					bads[c.V.Bad.Kind]++
				default:
					rings[level]++
				}
			}
		}
	}
	often(t, 25, slices.Concat(bads[1:], rings[1:], refused[1:])...)
}

// R1: long rows of proofs, far more than there may be, and numbers of any size.
func TestLong(t *testing.T) {
	var l []api.Proof
	for n := range 1 << 16 {
		l = append(l, at(-n, begins(n)))
	}
	l = append(l, at(1, writes(1, "a", "x")), at(2, commits(1)), at(3, reads(2, "a", "x")), at(4, writes(2, "a", "y")), at(5, commits(2)))
	for _, far := range []int{math.MinInt, math.MinInt + 1, -1 << 32, 1 << 32, math.MaxInt - 1, math.MaxInt} {
		wantEdge(t, "far away", l, edge(api.GRead, far, 2, 1, 3), false)
		wantEdge(t, "far away", l, edge(api.GRead, 1, 2, far, 3), false)
		wantBad(t, "far away", l, api.BOwn, far, 4, false)
		wantBad(t, "far away", l, api.BOwn, 3, far, false)
		other := append(slices.Clone(l), at(far, writes(far, "b", "z")), at(7, reads(1<<40, "b", "z")), at(8, commits(1<<40)), at(9, commits(far)))
		if far > 1 || far < -1<<16 {
			wantEdge(t, "from far away", other, edge(api.GRead, far, 1<<40, far, 7), true)
			wantEdge(t, "to far away", other, edge(api.GOver, far, 2, far, 7), false)
		}
	}
	wantEdge(t, "a write", l, edge(api.GWrite, 1, 2, 1, 4), true)
	wantEdge(t, "a read", l, edge(api.GRead, 1, 2, 1, 3), true)
	c := certOf(lost(), ringOf(api.Serial, edge(api.GWrite, 1, 2, 4, 5), edge(api.GOver, 2, 1, 3, 4)), 3, 4, 5, 6, 7)
	c.V.Ring = slices.Repeat(c.V.Ring, 1<<15)
	wantCheck(t, "a ring that is too long", c, c.Root, api.ErrArg)
	c = certOf(lost(), c.V)
	c.V.Ring, c.Proofs = nil, l
	wantCheck(t, "too many proofs", c, c.Root, api.ErrArg)
	wantCheck(t, "nothing", api.Cert{}, "", api.ErrArg)
}

// R3, R4: what is handed in stays as it was, what stands behind it isn't read, and no call remembers another one.
func TestNothingIsKept(t *testing.T) {
	r := rand.New(rand.NewSource(7))
	taken := 0
	for range 600 {
		h := wellFormed(r, 2+r.Intn(3), 14, 1, 3)
		c := forged(r, h, 1+r.Intn(2))
		places := len(c.Proofs)
		all := append(slices.Clone(c.Proofs), at(0, commits(9)), at(1, writes(9, "k", "v0")), at(2, aborts(1)))
		ring := append(slices.Clone(c.V.Ring), edge(9, 9, 9, 9, 9), edge(api.GOver, 1, 1, 1, 1))
		room := c
		room.Proofs, room.V.Ring = all[:places], ring[:len(c.V.Ring)]
		before := copied(api.Cert{Proofs: all, V: api.Verdict{Ring: ring}})
		want := plainCheck(c, c.Root)
		for range 2 {
			if e := Check(room, c.Root); e != want {
				t.Fatalf("of %+v: %d, want %d", c, e, want)
			}
			Proved(room, "another root")
			for _, e := range room.V.Ring {
				Edge(room.Proofs, e)
			}
			Bad(room.Proofs, room.V.Bad)
		}
		if !cert.Same(before, api.Cert{Proofs: all, V: api.Verdict{Ring: ring}}) {
			t.Fatalf("%+v, or what stands behind it, is written into", c)
		}
		if want == api.OK {
			taken++
		}
	}
	often(t, 50, taken)
}
