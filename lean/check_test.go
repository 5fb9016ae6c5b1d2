package lean

import (
	"encoding/hex"
	"fmt"
	"slices"
	"strings"
	"testing"

	"cartouche/api"
	"cartouche/cert"
)

// lost are two that read a, and then write it.
func lost() []api.Event {
	return []api.Event{begins(1), begins(2), reads(1, "a", ""), reads(2, "a", ""), writes(1, "a", "x"), writes(2, "a", "y"), commits(1), commits(2)}
}

// four go round: 2 read what 1 wrote, and 3 wrote over what 2 read, 4 over what 3 read, 1 over what 4 read (and 2); 2 wrote over what 1 read, and 4 wrote the version behind 3's.
func four() []api.Event {
	return []api.Event{
		0: begins(1), 1: begins(2), 2: begins(3), 3: begins(4),
		4: writes(1, "a", "x"), 5: reads(2, "a", "x"), 6: reads(2, "b", ""), 7: writes(3, "b", "y"), 8: reads(3, "c", ""), 9: writes(4, "c", "z"), 10: reads(4, "d", ""), 11: writes(1, "d", "u"),
		12: reads(2, "d", ""), 13: writes(2, "e", "v"), 14: reads(1, "e", ""), 15: reads(4, "a", ""), 16: writes(4, "b", "w"),
		17: commits(1), 18: commits(2), 19: commits(3), 20: commits(4),
	}
}

func tainted(level, kind, i, j int) api.Verdict {
	return api.Verdict{Level: level, Bad: api.Bad{Kind: kind, I: i, J: j}}
}

func ringOf(level int, l ...api.Edge) api.Verdict {
	return api.Verdict{Level: level, Ring: l}
}

// wantCheck holds Check, by hand and by the words; what else the certificate says of itself has no say.
func wantCheck(t *testing.T, what string, c api.Cert, root string, want api.Errno) {
	t.Helper()
	for range 2 {
		if e := Check(c, root); e != want {
			t.Errorf("%s: Check of %+v: %d, want %d", what, c.V, e, want)
		}
		if e := plainCheck(c, root); e != want {
			t.Errorf("%s: by the words Check of %+v is %d, not %d", what, c.V, e, want)
		}
		c.Tenant, c.Seq, c.Prev = "another one", 1<<20, strings.Repeat("p", 32)
	}
}

// wantProved holds Proved, by hand and by the words, and that Check answers its errors.
func wantProved(t *testing.T, what string, c api.Cert, root string, want api.Errno) {
	t.Helper()
	if e := Proved(c, root); e != want {
		t.Errorf("%s: Proved is %d, want %d", what, e, want)
	}
	if e := plainProved(c, root); e != want {
		t.Errorf("%s: by the words Proved is %d, not %d", what, e, want)
	}
	if e := Check(c, root); want != api.OK && e != want {
		t.Errorf("%s: Check is %d, want Proved's %d", what, e, want)
	}
}

// P15.1: what is proved, and each thing that is changed.
func TestProved(t *testing.T) {
	h := four()
	v := ringOf(api.Serial, edge(api.GRead, 1, 2, 4, 5), edge(api.GOver, 2, 1, 12, 11))
	made := certOf(h, v, 4, 5, 11, 12, 17, 18, 20)
	wantProved(t, "as made", made, made.Root, api.OK)
	wantCheck(t, "as made", made, made.Root, api.OK)
	changed := func(what string, want api.Errno, change func(c *api.Cert)) {
		t.Helper()
		c := copied(made)
		change(&c)
		wantProved(t, what, c, made.Root, want)
	}
	changed("no proofs", api.OK, func(c *api.Cert) { c.Proofs = nil })
	changed("one proof", api.OK, func(c *api.Cert) { c.Proofs = c.Proofs[3:4] })
	changed("all places", api.OK, func(c *api.Cert) { c.Proofs, _ = proved(h, placesOf(h)...) })
	changed("the first and the last place", api.OK, func(c *api.Cert) { c.Proofs, _ = proved(h, 0, len(h)-1) })
	changed("another verdict", api.OK, func(c *api.Cert) {
		c.V = api.Verdict{Level: 2, Accept: true, Order: []int{9}, Bad: api.Bad{Kind: 4, I: 255}, Ring: v.Ring}
	})
	for n, p := range made.Proofs {
		of := func(what string, change func(p *api.Proof)) {
			t.Helper()
			changed(fmt.Sprint("of the proof ", n, ": ", what), api.ErrProof, func(c *api.Cert) { change(&c.Proofs[n]) })
		}
		for i := range api.MaxEvents {
			if i != p.I {
				of(fmt.Sprint("the place ", i), func(p *api.Proof) { p.I = i })
			}
		}
		of("another transaction", func(p *api.Proof) { p.Event.Txn++ })
		of("another kind", func(p *api.Proof) { p.Event = begins(p.Event.Txn) })
		of("another event", func(p *api.Proof) { p.Event = h[(p.I+1)%len(h)] })
		of("another proof's path", func(p *api.Proof) { p.Path = made.Proofs[(n+1)%len(made.Proofs)].Path })
		of("no path", func(p *api.Proof) { p.Path = nil })
		of("a path that is cut off", func(p *api.Proof) { p.Path = p.Path[1:] })
		of("a path that is too long", func(p *api.Proof) { p.Path = append(p.Path, p.Path[0]) })
		of("a path turned", func(p *api.Proof) { slices.Reverse(p.Path) })
		if p.Event.Key != "" {
			of("another key", func(p *api.Proof) { p.Event.Key += "a" })
			of("another value", func(p *api.Proof) { p.Event.Val += "a" })
		}
		for m := range p.Path {
			for _, b := range []int{0, 15, 31} {
				of("another byte of the path", func(p *api.Proof) {
					s := []byte(p.Path[m])
					s[b] ^= 1
					p.Path[m] = string(s)
				})
			}
		}
		changed("one proof twice", api.ErrProof, func(c *api.Cert) { c.Proofs = slices.Insert(c.Proofs, n, c.Proofs[n]) })
		if n > 0 {
			changed("two proofs turned", api.ErrProof, func(c *api.Cert) { c.Proofs[n], c.Proofs[n-1] = c.Proofs[n-1], c.Proofs[n] })
			changed("the first one again", api.ErrProof, func(c *api.Cert) { c.Proofs = append(c.Proofs, c.Proofs[0]) })
		}
	}
	changed("all turned", api.ErrProof, func(c *api.Cert) { slices.Reverse(c.Proofs) })
}

// P15.1: by another root, or of another Count.
func TestProvedOfAnotherRoot(t *testing.T) {
	made := certOf(lost(), ringOf(api.Serial, edge(api.GWrite, 1, 2, 4, 5), edge(api.GOver, 2, 1, 3, 4)), 3, 4, 5, 6, 7)
	bare := made
	bare.Proofs = nil
	broken := copied(made)
	broken.Proofs[0].Event = begins(9)
	_, other := proved(lost()[1:])
	_, none := proved(nil)
	for _, root := range []string{"", "x", other, none, made.Root[:31], made.Root + "\x00", "\x00" + made.Root[1:], made.Root[:31] + "\x00", strings.Repeat("\x00", 32)} {
		wantProved(t, "by another root", made, root, api.ErrRoot)
		wantProved(t, "by another root, without proofs", bare, root, api.ErrRoot)
		wantProved(t, "by another root, with a proof that proves nothing", broken, root, api.ErrRoot)
		c := copied(made)
		c.Root = root
		want := api.ErrRoot
		if len(root) != 32 {
			want = api.ErrArg
		}
		wantProved(t, "of another root", c, made.Root, want)
		if want == api.ErrRoot {
			want = api.ErrProof
		}
		wantProved(t, "of another root, and by it", c, root, want)
		c.Proofs = nil
		if want == api.ErrProof {
			want = api.OK
		}
		wantProved(t, "of another root, and by it, without proofs", c, root, want)
	}
	for count := range api.MaxEvents + 1 {
		c := made
		c.Count = count
		if count != made.Count {
			wantProved(t, fmt.Sprint("Count is ", count), c, made.Root, api.ErrProof)
		}
		c.Proofs = nil
		wantProved(t, fmt.Sprint("Count is ", count, ", without proofs"), c, made.Root, api.OK)
	}
}

// P15.1: histories of one event, and of as many as may be.
func TestProvedOfFewAndMany(t *testing.T) {
	one := certOf([]api.Event{begins(1)}, api.Verdict{Level: api.Serial}, 0)
	wantProved(t, "one event", one, one.Root, api.OK)
	wantCheck(t, "one event", one, one.Root, api.ErrProof)
	nobody := certOf(nil, api.Verdict{Level: api.Snapshot, Accept: true})
	wantProved(t, "no event", nobody, nobody.Root, api.OK)
	wantCheck(t, "no event", nobody, nobody.Root, api.ErrState)
	nobody.Proofs = one.Proofs
	wantProved(t, "no event, and a proof", nobody, nobody.Root, api.ErrProof)
	h := []api.Event{reads(1, "a", "")}
	for len(h) < api.MaxEvents-1 {
		h = append(h, reads(1, "b", ""))
	}
	h = append(h, commits(1))
	many := certOf(h, api.Verdict{Level: api.Serial}, placesOf(h)...)
	wantProved(t, "as many as may be", many, many.Root, api.OK)
	last := copied(many)
	last.Proofs[255].Event = aborts(1)
	wantProved(t, "the last one is another one", last, many.Root, api.ErrProof)
	first := copied(many)
	first.Proofs[0].Event.Val = "x"
	wantProved(t, "the first one is another one", first, many.Root, api.ErrProof)
}

// P15.1: what may not be is told ahead of all else.
func TestProvedOfWhatMayNotBe(t *testing.T) {
	made := certOf(lost(), ringOf(api.Serial, edge(api.GWrite, 1, 2, 4, 5), edge(api.GOver, 2, 1, 3, 4)), 3, 4, 5, 6, 7)
	for what, change := range map[string]func(c *api.Cert){
		"no name":               func(c *api.Cert) { c.Tenant = "" },
		"a long name":           func(c *api.Cert) { c.Tenant = strings.Repeat("t", 17) },
		"Seq is 0":              func(c *api.Cert) { c.Seq = 0 },
		"Seq is too great":      func(c *api.Cert) { c.Seq = 1<<20 + 1 },
		"a short Prev":          func(c *api.Cert) { c.Prev = "p" },
		"no Root":               func(c *api.Cert) { c.Root = "" },
		"Count is below 0":      func(c *api.Cert) { c.Count = -1 },
		"Count is too great":    func(c *api.Cert) { c.Count = 257 },
		"no level":              func(c *api.Cert) { c.V.Level = 0 },
		"level 3":               func(c *api.Cert) { c.V.Level = 3 },
		"a number of nobody":    func(c *api.Cert) { c.V.Order = []int{0} },
		"Bad's kind":            func(c *api.Cert) { c.V.Bad.Kind = 5 },
		"Bad's place":           func(c *api.Cert) { c.V.Bad.J = -1 },
		"an edge's kind":        func(c *api.Cert) { c.V.Ring[1].Kind = 4 },
		"an edge's From":        func(c *api.Cert) { c.V.Ring[0].From = 33 },
		"an edge's place":       func(c *api.Cert) { c.V.Ring[0].I = 256 },
		"a long ring":           func(c *api.Cert) { c.V.Ring = slices.Repeat(c.V.Ring, 65) },
		"a proof's place":       func(c *api.Cert) { c.Proofs[0].I = -1 },
		"a proof's event":       func(c *api.Cert) { c.Proofs[4].Event.Txn = 0 },
		"an event with a key":   func(c *api.Cert) { c.Proofs[4].Event.Key = "a" },
		"a write of no value":   func(c *api.Cert) { c.Proofs[1].Event.Val = "" },
		"a path's text":         func(c *api.Cert) { c.Proofs[2].Path[0] += "x" },
		"a path's text is none": func(c *api.Cert) { c.Proofs[2].Path[2] = "" },
		"a long path":           func(c *api.Cert) { c.Proofs[2].Path = slices.Repeat(c.Proofs[2].Path, 5) },
	} {
		for _, accept := range []bool{false, true} {
			c := copied(made)
			c.V.Accept = accept
			change(&c)
			wantProved(t, what, c, made.Root, api.ErrArg)
			wantProved(t, what+", by another root", c, "x", api.ErrArg)
			wantProved(t, what+", by its own root", c, c.Root, api.ErrArg)
			slices.Reverse(c.Proofs)
			wantProved(t, what+", with proofs that prove nothing", c, made.Root, api.ErrArg)
		}
	}
}

// P15.4: rings.
func TestCheckOfRings(t *testing.T) {
	h := four()
	read12, over21 := edge(api.GRead, 1, 2, 4, 5), edge(api.GOver, 2, 1, 12, 11)
	over23, over34, over41 := edge(api.GOver, 2, 3, 6, 7), edge(api.GOver, 3, 4, 8, 9), edge(api.GOver, 4, 1, 10, 11)
	over12, write34 := edge(api.GOver, 1, 2, 14, 13), edge(api.GWrite, 3, 4, 7, 16)
	changed := func(e api.Edge, change func(e *api.Edge)) api.Edge {
		change(&e)
		return e
	}
	for _, c := range []struct {
		what                 string
		l                    []api.Edge
		asSerial, asSnapshot bool
	}{
		{"no edge", nil, false, false},
		{"no edge, and a list", []api.Edge{}, false, false},
		{"one edge", []api.Edge{read12}, false, false},
		{"one GOver", []api.Edge{over21}, false, false},
		{"an edge to itself", []api.Edge{edge(api.GOver, 1, 1, 14, 11)}, false, false},
		{"GRead, GOver", []api.Edge{read12, over21}, true, true},
		{"GOver, GRead", []api.Edge{over21, read12}, true, true},
		{"two GOver", []api.Edge{over12, over21}, true, false},
		{"four, the last three GOver", []api.Edge{read12, over23, over34, over41}, true, false},
		{"four, the first three GOver", []api.Edge{over23, over34, over41, read12}, true, false},
		{"four, the first and the last GOver", []api.Edge{over41, read12, over23, write34}, true, true},
		{"four, by turns", []api.Edge{read12, over23, write34, over41}, true, true},
		{"four, the last one and the first one GOver", []api.Edge{over41, over12, over23, write34}, true, false},
		{"four, the last one and the first one GOver, turned", []api.Edge{over12, over23, write34, over41}, true, false},
		{"four, the two in the middle GOver", []api.Edge{write34, over41, over12, over23}, true, false},
		{"gone round twice", []api.Edge{read12, over21, read12, over21}, true, true},
		{"two rings of one place", []api.Edge{read12, over21, read12, over23, write34, over41}, true, true},
		{"as many as may be", slices.Repeat([]api.Edge{read12, over21}, 64), true, true},

		{"not closed", []api.Edge{read12, over23, write34}, false, false},
		{"not closed by one", []api.Edge{read12, over21, read12}, false, false},
		{"a gap", []api.Edge{read12, over34, over41}, false, false},
		{"the other way round", []api.Edge{over41, write34, over23, read12}, false, false},
		{"an edge twice", []api.Edge{read12, read12, over21}, false, false},
		{"the first one isn't shown", []api.Edge{changed(read12, func(e *api.Edge) { e.I = 7 }), over21}, false, false},
		{"the last one isn't shown", []api.Edge{read12, changed(over21, func(e *api.Edge) { e.I = 5 })}, false, false},
		{"one in the middle isn't shown", []api.Edge{read12, changed(over23, func(e *api.Edge) { e.J = 16 }), write34, over41}, false, false},
		{"another kind", []api.Edge{changed(read12, func(e *api.Edge) { e.Kind = api.GWrite }), over21}, false, false},
		{"places that the history doesn't have", []api.Edge{read12, changed(over21, func(e *api.Edge) { e.J = 255 })}, false, false},
	} {
		for _, level := range levels {
			is := c.asSerial
			if level == api.Snapshot {
				is = c.asSnapshot
			}
			want := api.ErrProof
			if is {
				want = api.OK
			}
			made := certOf(h, ringOf(level, c.l...), placesOf(h)...)
			wantCheck(t, fmt.Sprint(c.what, " at ", level), made, made.Root, want)
			made.V.Bad = api.Bad{I: 200, J: 7}
			wantCheck(t, fmt.Sprint(c.what, ", with places of no taint, at ", level), made, made.Root, want)
			made.V.Order = []int{1}
			wantCheck(t, fmt.Sprint(c.what, ", with an order, at ", level), made, made.Root, api.ErrProof)
			made.V.Accept = true
			wantCheck(t, fmt.Sprint(c.what, ", accepted, at ", level), made, made.Root, api.ErrState)
			made.V.Order = nil
			wantCheck(t, fmt.Sprint(c.what, ", accepted without an order, at ", level), made, made.Root, api.ErrState)
			made.V.Accept = false
			for kind := api.BAbort; kind <= api.BLater; kind++ {
				made.V.Bad = api.Bad{Kind: kind, I: 5, J: 4}
				wantCheck(t, fmt.Sprint(c.what, ", with a taint, at ", level), made, made.Root, api.ErrProof)
			}
		}
	}
}

// P15.4: a ring, of which each one of the events that show it is left out.
func TestCheckOfTooFewProofs(t *testing.T) {
	for _, level := range levels {
		v := ringOf(level, edge(api.GRead, 1, 2, 4, 5), edge(api.GOver, 2, 3, 6, 7), edge(api.GWrite, 3, 4, 7, 16), edge(api.GOver, 4, 1, 10, 11))
		needed := []int{4, 5, 6, 7, 10, 11, 16, 17, 18, 19, 20}
		made := certOf(four(), v, needed...)
		wantCheck(t, "all", made, made.Root, api.OK)
		for n := range needed {
			few := made
			few.Proofs = without(made.Proofs, n)
			wantCheck(t, fmt.Sprint("without the place ", needed[n]), few, made.Root, api.ErrProof)
		}
		more := certOf(four(), v, append([]int{0, 3}, needed...)...)
		wantCheck(t, "more than are needed", more, more.Root, api.OK)
		none := certOf(four(), v)
		wantCheck(t, "none", none, none.Root, api.ErrProof)
	}
}

// P15.4: what was seen and should not have been.
func TestCheckOfBad(t *testing.T) {
	ring := []api.Edge{edge(api.GRead, 1, 2, 1, 4), edge(api.GOver, 2, 1, 3, 1)}
	for kind, h := range map[int][]api.Event{
		api.BAbort:  {begins(1), writes(1, "a", "x"), begins(2), reads(2, "b", ""), reads(2, "a", "x"), aborts(1), commits(2)},
		api.BMiddle: {writes(1, "a", "x"), writes(1, "a", "y"), begins(2), reads(2, "b", ""), reads(2, "a", "x"), commits(1), commits(2)},
		api.BOwn:    {writes(1, "a", "x"), writes(2, "a", "y"), begins(2), reads(2, "b", ""), reads(2, "a", "x"), commits(1), commits(2)},
		api.BLater:  {begins(1), writes(2, "b", "x"), begins(2), reads(2, "b", "x"), reads(2, "a", "x"), writes(2, "a", "x"), commits(2)},
	} {
		j := 1
		if kind == api.BLater {
			j = 5
		}
		for _, level := range levels {
			made := certOf(h, tainted(level, kind, 4, j), placesOf(h)...)
			wantCheck(t, "as made", made, made.Root, api.OK)
			changed := func(what string, want api.Errno, change func(c *api.Cert)) {
				t.Helper()
				c := copied(made)
				change(&c)
				wantCheck(t, fmt.Sprint(what, ", the kind ", kind), c, made.Root, want)
			}
			changed("accepted", api.ErrState, func(c *api.Cert) { c.V.Accept = true })
			changed("accepted, with an order", api.ErrState, func(c *api.Cert) { c.V.Accept, c.V.Order = true, []int{1, 2} })
			changed("accepted, with a ring", api.ErrState, func(c *api.Cert) { c.V.Accept, c.V.Ring = true, ring })
			changed("with an order", api.ErrProof, func(c *api.Cert) { c.V.Order = []int{2} })
			changed("with a ring", api.ErrProof, func(c *api.Cert) { c.V.Ring = ring })
			changed("with an edge", api.ErrProof, func(c *api.Cert) { c.V.Ring = ring[:1] })
			changed("no kind", api.ErrProof, func(c *api.Cert) { c.V.Bad.Kind = 0 })
			changed("no proofs", api.ErrProof, func(c *api.Cert) { c.Proofs = nil })
			changed("another read", api.ErrProof, func(c *api.Cert) { c.V.Bad.I = 3 })
			changed("no read", api.ErrProof, func(c *api.Cert) { c.V.Bad.I = 2 })
			changed("another place", api.ErrProof, func(c *api.Cert) { c.V.Bad.J = 255 })
			for other := range 5 {
				if other != kind {
					changed("another kind", api.ErrProof, func(c *api.Cert) { c.V.Bad.Kind = other })
				}
			}
			for _, i := range []int{4, j, 6} {
				changed(fmt.Sprint("without the place ", i), api.ErrProof, func(c *api.Cert) { c.Proofs = slices.Delete(c.Proofs, i, i+1) })
			}
			changed("without the place 2", api.OK, func(c *api.Cert) { c.Proofs = slices.Delete(c.Proofs, 2, 3) })
		}
	}
}

// P15.4: which error is told first.
func TestCheckTellsFirst(t *testing.T) {
	made := certOf(lost(), ringOf(api.Snapshot, edge(api.GWrite, 1, 2, 4, 5), edge(api.GOver, 2, 1, 3, 4)), 3, 4, 5, 6, 7)
	wantCheck(t, "as made", made, made.Root, api.OK)
	c := copied(made)
	c.V.Order = []int{1, 2}
	wantCheck(t, "an order", c, made.Root, api.ErrProof)
	c.V.Accept = true
	wantCheck(t, "an order, accepted", c, made.Root, api.ErrState)
	c.Proofs[2].Event.Val = "z"
	wantCheck(t, "accepted, a proof that proves nothing", c, made.Root, api.ErrProof)
	wantCheck(t, "accepted, a proof that proves nothing, by another root", c, "x", api.ErrRoot)
	c.V.Level = 0
	wantCheck(t, "accepted, a proof that proves nothing, by another root, no level", c, "x", api.ErrArg)
}

// P15.1, P15.4: certificates that another program reckoned, as bytes.
func TestCheckMadeElsewhere(t *testing.T) {
	for _, c := range []struct {
		what, root, bytes string
		others            int
	}{
		// By its lowest bit the number 9 becomes 8; the number 1 and each level become what may not be.
		{"two that read a value and write over it", "8c3481b4b9235d5165fd17cc566030826801f45fd0bd78a9736af8f311a0d6b7", overElsewhere, 2},
		{"what its writer wrote over, and was given up", "e7cb5d5311f52f4c467fca7915d9803b77dd01f68e5a7a9ee1e9978e0cd7d706", middleElsewhere, 1},
	} {
		s, err := hex.DecodeString(c.bytes)
		if err != nil {
			t.Fatal(err)
		}
		taken, e := cert.Take(string(s))
		if e != api.OK || hex.EncodeToString([]byte(taken.Root)) != c.root {
			t.Fatalf("%s: %+v, %d", c.what, taken, e)
		}
		wantProved(t, c.what, taken, taken.Root, api.OK)
		wantCheck(t, c.what, taken, taken.Root, api.OK)
		// With another byte it is another certificate, or none: of those the ones with another name, or another number, alone are taken.
		others := 0
		for i := range s {
			s[i] ^= 1
			if other, e := cert.Take(string(s)); e == api.OK {
				want := plainCheck(other, taken.Root)
				wantCheck(t, fmt.Sprint(c.what, ", another byte ", i), other, taken.Root, want)
				if want == api.OK {
					others++
				}
			}
			s[i] ^= 1
		}
		if others != c.others {
			t.Errorf("%s: %d others are taken", c.what, others)
		}
	}
}
