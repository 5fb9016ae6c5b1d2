package store

import (
	"fmt"
	"math"
	"slices"
	"strings"
	"testing"

	"cartouche/api"
)

func shownRow(l []api.Event) string {
	s := ""
	for _, x := range l {
		s += fmt.Sprintf("(%d %d %q %q)", x.Kind, x.Txn, x.Key, x.Val)
	}
	return "[" + s + "]"
}

func shown(s api.Store) string {
	certs := 0
	for _, c := range s.Certs {
		certs += len(c)
	}
	hists := ""
	for _, h := range s.Hists {
		hists += shownRow(h)
	}
	return fmt.Sprintf("Safe %.60q, Wait %.60q, Room %d, Fuse %d, Off %t; Open %s; Hists %s; Certs %.20q of %d bytes",
		s.T.Safe, s.T.Wait, s.T.Room, s.T.Fuse, s.T.Off, shownRow(s.Open), hists, s.Certs, certs)
}

func wantStore(t *testing.T, what string, s, want api.Store) {
	t.Helper()
	if !plainSame(s, want) {
		t.Errorf("%s: %s, want %s", what, shown(s), shown(want))
	}
}

func wantAnswer(t *testing.T, what string, s api.Store, e api.Errno, want api.Store, err api.Errno) {
	t.Helper()
	wantStore(t, what, s, want)
	if e != err {
		t.Errorf("%s: %d, want %d", what, e, err)
	}
}

func wantOpen(t *testing.T, what string, x api.Tape, want api.Store, err api.Errno) {
	t.Helper()
	s, e := Open(x)
	wantAnswer(t, what, s, e, want, err)
}

func wantPut(t *testing.T, what string, s api.Store, x api.Event, want api.Store, err api.Errno) {
	t.Helper()
	y, e := Put(s, x)
	wantAnswer(t, what, y, e, want, err)
}

func wantSeal(t *testing.T, what string, s, want api.Store, err api.Errno) {
	t.Helper()
	y, e := Seal(s)
	wantAnswer(t, what, y, e, want, err)
}

func wantNote(t *testing.T, what string, s api.Store, body string, want api.Store, err api.Errno) {
	t.Helper()
	y, e := Note(s, body)
	wantAnswer(t, what, y, e, want, err)
}

func wantCrash(t *testing.T, what string, s api.Store, keep int, want api.Store, err api.Errno) {
	t.Helper()
	y, e := Crash(s, keep)
	wantAnswer(t, what, y, e, want, err)
}

// do does a deed by the call that does it.
func do(s api.Store, d deed) (api.Store, api.Errno) {
	switch d.what {
	case 'e':
		return Put(s, d.x)
	case 's':
		return Seal(s)
	}
	return Note(s, d.body)
}

func fresh(t *testing.T, room int) api.Store {
	t.Helper()
	s, e := New(room)
	if e != api.OK {
		t.Fatalf("New(%d): %d", room, e)
	}
	return s
}

func after(t *testing.T, s api.Store, l ...deed) api.Store {
	t.Helper()
	for _, d := range l {
		y, e := do(s, d)
		if e != api.OK {
			t.Fatalf("%.40q on %s: %d", d.record(), shown(s), e)
		}
		s = y
	}
	return s
}

// on is a store of what a row of deeds makes, on a tape.
func on(x api.Tape, l ...deed) api.Store {
	s := has(l)
	s.T = x
	return s
}

// times is a row of deeds, so many times over.
func times(n int, l ...deed) []deed {
	return slices.Repeat(l, n)
}

// events are as many as may be in one history, and one more, no two the same.
func events(n int) []deed {
	var l []deed
	for i := range n {
		l = append(l, put(write(1+i%32, fmt.Sprint("k", i), "v")))
	}
	return l
}

// P17.1: an empty store on an empty tape; a room below 0.
func TestNew(t *testing.T) {
	for _, room := range []int{0, 1, 200, 100000, math.MaxInt} {
		s, e := New(room)
		wantAnswer(t, "New", s, e, api.Store{T: api.Tape{Room: room, Fuse: -1}}, api.OK)
	}
	for _, room := range []int{-1, -2, -100000, math.MinInt} {
		s, e := New(room)
		wantAnswer(t, "New of a room that may not be", s, e, api.Store{}, api.ErrArg)
	}
}

// P17.1: what records do, in order, of what is safe and of what waits; the tape stays as it is.
func TestOpen(t *testing.T) {
	for _, l := range [][]deed{
		nil,
		{put(begin(1))},
		{put(abort(32))},
		{put(begin(1)), put(begin(2)), put(begin(1))},
		{put(write(3, "a", "b")), put(read(3, "a", "")), put(read(4, filler(32), filler(31)))},
		{put(begin(1)), seal()},
		{put(begin(1)), seal(), put(commit(1)), seal(), put(abort(2))},
		{note("")},
		{note("body"), note("e\x01\x01"), note("s"), note("c"), note("body")},
		{put(begin(1)), note("b"), put(commit(1)), seal(), note("a")},
		events(64),
		append(events(64), seal()),
		append(append(events(64), seal()), events(64)...),
		times(8, put(begin(1)), seal()),
		append(times(8, put(begin(1)), seal()), events(64)...),
		times(16, note("x")),
		append(times(16, note(filler(300))), put(begin(1)), seal()),
		{note(filler(65534))},
	} {
		b := tapeOf(l)
		for _, at := range []int{0, 1, len(b) / 2, len(b)} {
			at = min(at, len(b))
			x := api.Tape{Safe: b[:at], Wait: b[at:], Room: 77, Fuse: 5}
			wantOpen(t, "Open", x, on(x, l...), api.OK)
			x.Off = true
			wantOpen(t, "Open of one that is off", x, api.Store{}, api.ErrDead)
		}
	}
}

// P17.1: a record that is none, wherever it stands.
func TestOpenOfNoRecord(t *testing.T) {
	for _, rec := range []string{
		"", "e", "e\x01", "e\x01\x00", "e\x01\x21", "e\x00\x01", "e\x06\x01", "e\x01\x01\x00", "e\x01\x01s", "e\x02\x01", "e\x02\x01\x00\x00", "e\x02\x01\x01a",
		"e\x03\x01\x01a\x00", "e\x03\x01\x01a\x01", "e\x03\x01\x01a\x01bc", "e\x03\x01\x21" + filler(33) + "\x01b", "e\x04\x01\x01a\x00", "e\xff\xff",
		"s\x00", "ss", "se", "\x00", "\x01\x01", "a", "b", "d", "f", "r", "t", "E\x01\x01", "S", "C", "Cbody", "\xe5\x01\x01", "\x01\x01e", "xs", "xc", filler(65535),
	} {
		for _, front := range [][]deed{nil, {put(begin(1))}, {put(begin(1)), seal(), note("c"), put(begin(2))}} {
			for _, back := range [][]deed{nil, {put(begin(3))}, {note("b"), note("c")}} {
				x := api.Tape{Safe: tapeOf(front) + plainText(rec) + tapeOf(back), Room: 9, Fuse: -1}
				wantOpen(t, fmt.Sprintf("%.20q behind %.40q", rec, tapeOf(front)), x, api.Store{}, api.ErrForm)
				x.Safe, x.Wait = x.Safe[:len(tapeOf(front))], x.Safe[len(tapeOf(front)):]
				wantOpen(t, "that waits", x, api.Store{}, api.ErrForm)
				x.Off = true
				wantOpen(t, "that is off", x, api.Store{}, api.ErrDead)
			}
		}
	}
}

// P17.1: a record that is one, but may not be where it stands.
func TestOpenOfMisplaced(t *testing.T) {
	for _, l := range [][]deed{
		{seal()},
		{put(begin(1)), seal(), seal()},
		{note("c"), seal()},
		events(65),
		append([]deed{put(begin(1)), seal()}, events(65)...),
		append(times(8, put(begin(1)), seal()), put(begin(1)), seal()),
		times(17, note("x")),
	} {
		x := api.Tape{Safe: tapeOf(l), Room: 9, Fuse: -1}
		wantOpen(t, "one that may not be", x, api.Store{}, api.ErrForm)
		x.Safe = tapeOf(l[:len(l)-1])
		wantOpen(t, "all ahead of it", x, on(x, l[:len(l)-1]...), api.OK)
		x.Safe = tapeOf(append(slices.Clone(l), put(begin(1))))
		wantOpen(t, "with one behind it", x, api.Store{}, api.ErrForm)
	}
}

// P17.1: what was torn is no record, and isn't odd; the tape stays as it is.
func TestOpenOfTorn(t *testing.T) {
	l := []deed{put(begin(1)), seal(), note(filler(260))}
	b := tapeOf(l)
	ends := []int{0, len(tapeOf(l[:1])), len(tapeOf(l[:2])), len(b)}
	for at := range len(b) + 1 {
		whole := 0
		for whole < len(l) && ends[whole+1] <= at {
			whole++
		}
		x := api.Tape{Safe: b[:at/2], Wait: b[at/2 : at], Room: 1, Fuse: -1}
		wantOpen(t, "torn", x, on(x, l[:whole]...), api.OK)
	}
	x := api.Tape{Safe: "\x03e\x01\x01\xfc\x01s", Fuse: -1}
	wantOpen(t, "bytes of no text", x, on(x, put(begin(1))), api.OK)
}

// P17.1: the Fuse of its tape; nothing of one that is off.
func TestArm(t *testing.T) {
	s := after(t, fresh(t, 99), put(begin(1)), seal(), note("c"), put(begin(2)))
	for _, c := range []struct{ fuse, want int }{{0, 0}, {1, 1}, {99, 99}, {math.MaxInt, math.MaxInt}, {-1, -1}, {-2, -1}, {math.MinInt, -1}} {
		want := s
		want.T.Fuse = c.want
		wantStore(t, "Arm", Arm(s, c.fuse), want)
		want.T.Fuse, want.T.Off = 3, true
		wantStore(t, "Arm of one that is off", Arm(want, c.fuse), want)
	}
}

// P17.1: what is kept of what waits is told by the tape alone.
func TestCrash(t *testing.T) {
	front := []deed{put(begin(1)), seal(), put(begin(2)), note("body")}
	back := []deed{put(commit(2)), put(write(3, "a", "b"))}
	all := slices.Concat(front, back)
	s := after(t, fresh(t, 100), all...)
	for _, c := range []struct{ keep, whole int }{
		{math.MinInt, 0}, {-1, 0}, {0, 0}, {1, 0}, {3, 0}, {4, 1}, {5, 1}, {11, 1}, {12, 2}, {13, 2}, {math.MaxInt, 2},
	} {
		l := all[:len(front)+c.whole]
		b := tapeOf(l)
		want := on(api.Tape{Safe: b, Room: 100 - len(b), Fuse: -1}, l...)
		wantCrash(t, fmt.Sprint("Crash ", c.keep), s, c.keep, want, api.OK)
		armed := Arm(s, 2)
		wantCrash(t, "with a fuse", armed, c.keep, want, api.OK)
		armed.T.Off = true
		wantCrash(t, "of one that is off", armed, c.keep, want, api.OK)
		armed.Open, armed.Hists, armed.Certs = nil, nil, []string{"x"}
		wantCrash(t, "of a store that has something else", armed, c.keep, want, api.OK)
	}
	wantCrash(t, "an odd record", api.Store{T: api.Tape{Safe: "\x01s", Wait: "\x01s"}}, 9, api.Store{}, api.ErrForm)
	wantCrash(t, "an odd record, kept", api.Store{T: api.Tape{Safe: "\x03e\x01\x01", Wait: "\x01s\x01s"}}, 4, api.Store{}, api.ErrForm)
	x := api.Store{T: api.Tape{Safe: "\x03e\x01\x01", Wait: "\x01s\x01s"}}
	wantCrash(t, "an odd record, not kept", x, 3, on(api.Tape{Safe: "\x03e\x01\x01\x01s", Room: 2, Fuse: -1}, put(begin(1)), seal()), api.OK)
}

// P17.1: the same, field by field, one by one.
func TestSame(t *testing.T) {
	full := func() api.Store {
		return api.Store{
			T:     api.Tape{Safe: "a", Wait: "b", Room: 1, Fuse: 2},
			Open:  []api.Event{begin(1), write(1, "a", "b")},
			Hists: [][]api.Event{{begin(1)}, {begin(2), read(2, "a", "")}},
			Certs: []string{"x", "y"},
		}
	}
	for i, change := range []func(s *api.Store){
		func(s *api.Store) { s.T.Safe = "" },
		func(s *api.Store) { s.T.Safe, s.T.Wait = "ab", "" },
		func(s *api.Store) { s.T.Wait = "c" },
		func(s *api.Store) { s.T.Room = -1 },
		func(s *api.Store) { s.T.Fuse = -1 },
		func(s *api.Store) { s.T.Off = true },
		func(s *api.Store) { s.Open = nil },
		func(s *api.Store) { s.Open = s.Open[:1] },
		func(s *api.Store) { s.Open = append(s.Open, begin(1)) },
		func(s *api.Store) { s.Open[0].Kind = api.ECommit },
		func(s *api.Store) { s.Open[0].Txn = 2 },
		func(s *api.Store) { s.Open[1].Key = "" },
		func(s *api.Store) { s.Open[1].Val = "c" },
		func(s *api.Store) { s.Open[0], s.Open[1] = s.Open[1], s.Open[0] },
		func(s *api.Store) { s.Hists = nil },
		func(s *api.Store) { s.Hists = s.Hists[:1] },
		func(s *api.Store) { s.Hists = append(s.Hists, nil) },
		func(s *api.Store) { s.Hists[0] = nil },
		func(s *api.Store) { s.Hists[1] = s.Hists[1][:1] },
		func(s *api.Store) { s.Hists[1][1].Val = "a" },
		func(s *api.Store) { s.Hists[0], s.Hists[1] = s.Hists[1], s.Hists[0] },
		func(s *api.Store) { s.Hists = [][]api.Event{slices.Concat(s.Hists[0], s.Hists[1])} },
		func(s *api.Store) { s.Certs = nil },
		func(s *api.Store) { s.Certs = s.Certs[:1] },
		func(s *api.Store) { s.Certs = append(s.Certs, "") },
		func(s *api.Store) { s.Certs[1] = "" },
		func(s *api.Store) { s.Certs[0], s.Certs[1] = "y", "x" },
		func(s *api.Store) { s.Certs = []string{"xy", ""} },
	} {
		a, b := full(), full()
		if !Same(a, b) || !Same(b, a) || !Same(a, a) {
			t.Errorf("%d: the same are not", i)
		}
		change(&b)
		if Same(a, b) || Same(b, a) {
			t.Errorf("%d: %s and %s are the same", i, shown(a), shown(b))
		}
	}
	a := api.Store{Hists: [][]api.Event{nil}}
	b := api.Store{Open: []api.Event{}, Hists: [][]api.Event{{}}, Certs: []string{}}
	if !Same(a, b) || !Same(api.Store{}, api.Store{Hists: [][]api.Event{}}) || Same(api.Store{}, a) {
		t.Error("lists of none")
	}
}

// P17.2: an event stands behind the open history, and waits.
func TestPut(t *testing.T) {
	s := fresh(t, 100)
	wantPut(t, "the first", s, begin(1), on(api.Tape{Wait: "\x03e\x01\x01", Room: 96, Fuse: -1}, put(begin(1))), api.OK)
	s = after(t, s, put(begin(1)))
	x := api.Tape{Wait: "\x03e\x01\x01\x07e\x03\x20\x01a\x01b", Room: 88, Fuse: -1}
	wantPut(t, "the second", s, write(32, "a", "b"), on(x, put(begin(1)), put(write(32, "a", "b"))), api.OK)
	long := read(2, filler(32), filler(32))
	x = api.Tape{Wait: "\x03e\x01\x01" + plainText("e"+plainEvent(long)), Room: 96 - 70, Fuse: -1}
	wantPut(t, "a long one", s, long, on(x, put(begin(1)), put(long)), api.OK)
	s = after(t, s, seal())
	x = api.Tape{Safe: "\x03e\x01\x01\x01s", Wait: "\x03e\x04\x01", Room: 90, Fuse: -1}
	wantPut(t, "behind a seal", s, commit(1), on(x, put(begin(1)), seal(), put(commit(1))), api.OK)
}

// P17.2: events that may not be, at a store that has power and room, and at one that hasn't.
func TestPutOfNoEvent(t *testing.T) {
	ready := after(t, fresh(t, 10000), put(begin(1)), seal(), note("c"), put(begin(2)))
	full := after(t, ready, events(63)...)
	dead := ready
	dead.T.Off = true
	small := ready
	small.T.Room = 0
	for _, x := range []api.Event{
		{}, {Kind: 0, Txn: 1}, {Kind: 6, Txn: 1}, {Kind: -1, Txn: 1}, {Kind: 257, Txn: 1}, {Kind: 9, Txn: 1},
		begin(0), begin(33), begin(-1), begin(257), commit(math.MaxInt), abort(math.MinInt),
		{Kind: 1, Txn: 1, Key: "a"}, {Kind: 4, Txn: 1, Val: "a"}, {Kind: 5, Txn: 1, Key: "a", Val: "b"},
		read(1, "", ""), read(1, "", "a"), read(1, filler(33), "a"), read(1, "a", filler(33)), write(1, "a", ""), write(1, "", "a"), write(1, filler(33), "a"), write(1, "a", filler(33)), read(33, "a", "b"), write(0, "a", "b"),
	} {
		for _, s := range []api.Store{{}, ready, full, dead, small} {
			wantPut(t, shownRow([]api.Event{x}), s, x, s, api.ErrArg)
		}
	}
}

// P17.2: of 64 events the history is full, and takes no other one, whatever the tape is; a new one is empty.
func TestPutToTheFull(t *testing.T) {
	s := after(t, fresh(t, 10000), events(63)...)
	s = after(t, s, put(begin(1)))
	wantPut(t, "the 65th", s, begin(2), s, api.ErrFull)
	for _, change := range []func(x *api.Tape){func(x *api.Tape) { x.Off = true }, func(x *api.Tape) { x.Room = 0 }, func(x *api.Tape) { x.Fuse = 0 }} {
		y := s
		change(&y.T)
		wantPut(t, "the 65th, on a tape that takes nothing", y, begin(2), y, api.ErrFull)
	}
	more := s
	more.Open = append(slices.Clone(s.Open), begin(1))
	wantPut(t, "the 66th", more, begin(2), more, api.ErrFull)
	s = after(t, s, seal(), put(begin(1)))
	if len(s.Hists) != 1 || len(s.Hists[0]) != 64 || len(s.Open) != 1 {
		t.Error(shown(s))
	}
}

// P17.2: the open history stands behind the sealed ones, and is empty; nothing waits.
func TestSeal(t *testing.T) {
	s := after(t, fresh(t, 100), put(begin(1)), put(commit(1)))
	x := api.Tape{Safe: "\x03e\x01\x01\x03e\x04\x01\x01s", Room: 90, Fuse: -1}
	wantSeal(t, "the first", s, on(x, put(begin(1)), put(commit(1)), seal()), api.OK)
	s = after(t, s, seal(), put(begin(2)))
	x.Safe, x.Room = x.Safe+"\x03e\x01\x02\x01s", 84
	wantSeal(t, "the second", s, on(x, put(begin(1)), put(commit(1)), seal(), put(begin(2)), seal()), api.OK)
}

// P17.2: an open history of none, and of 8 that are sealed no more; whatever the tape is.
func TestSealOfNoneAndToTheFull(t *testing.T) {
	empty := after(t, fresh(t, 1000), put(begin(1)), seal(), note("c"))
	eight := after(t, fresh(t, 1000), times(8, put(begin(1)), seal())...)
	wantSeal(t, "none", fresh(t, 9), fresh(t, 9), api.ErrNone)
	wantSeal(t, "the seventh", after(t, fresh(t, 1000), times(7, put(begin(1)), seal())...), after(t, fresh(t, 1000), times(7, put(begin(1)), seal())...), api.ErrNone)
	ninth := after(t, eight, put(begin(1)))
	nine := ninth
	nine.Hists = append(slices.Clone(nine.Hists), nil)
	for _, change := range []func(x *api.Tape){func(x *api.Tape) {}, func(x *api.Tape) { x.Off = true }, func(x *api.Tape) { x.Room = 0 }, func(x *api.Tape) { x.Fuse = 0 }} {
		for _, c := range []struct {
			s api.Store
			e api.Errno
		}{{empty, api.ErrNone}, {eight, api.ErrNone}, {ninth, api.ErrFull}, {nine, api.ErrFull}} {
			change(&c.s.T)
			wantSeal(t, "Seal", c.s, c.s, c.e)
		}
	}
}

// P17.2: a body stands behind the others; nothing waits.
func TestNote(t *testing.T) {
	s := fresh(t, 100)
	wantNote(t, "the first", s, "body", on(api.Tape{Safe: "\x05cbody", Room: 94, Fuse: -1}, note("body")), api.OK)
	wantNote(t, "one of no bytes", s, "", on(api.Tape{Safe: "\x01c", Room: 98, Fuse: -1}, note("")), api.OK)
	s = after(t, s, put(begin(1)), note("body"))
	x := api.Tape{Safe: "\x03e\x01\x01\x05cbody\x05cbody", Room: 84, Fuse: -1}
	wantNote(t, "the same once more", s, "body", on(x, put(begin(1)), note("body"), note("body")), api.OK)
}

// P17.2: of 16 bodies no more, whatever the tape and the body are.
func TestNoteToTheFull(t *testing.T) {
	s := after(t, fresh(t, 1000), times(15, note("x"))...)
	s = after(t, s, note("y"), put(begin(1)))
	more := s
	more.Certs = append(slices.Clone(s.Certs), "z")
	for _, body := range []string{"", "x", filler(65535)} {
		for _, change := range []func(x *api.Tape){func(x *api.Tape) {}, func(x *api.Tape) { x.Off = true }, func(x *api.Tape) { x.Room = 0 }, func(x *api.Tape) { x.Fuse = 0 }} {
			for _, y := range []api.Store{s, more} {
				change(&y.T)
				wantNote(t, "Note", y, body, y, api.ErrFull)
			}
		}
	}
}

// P17.2: a body of so many bytes that its record has more than 65535; that is told ahead of the room, and behind the power.
func TestNoteOfTooLong(t *testing.T) {
	s := after(t, fresh(t, 70000), put(begin(1)))
	body := filler(65534)
	x := api.Tape{Safe: "\x03e\x01\x01\xfb\xff\xffc" + body, Room: 70000 - 4 - 65538, Fuse: -1}
	wantNote(t, "as long as may be", s, body, on(x, put(begin(1)), note(body)), api.OK)
	for _, body := range []string{filler(65535), filler(65536), filler(200000)} {
		wantNote(t, "longer", s, body, s, api.ErrBig)
		y := s
		y.T.Room, y.T.Fuse = 0, 0
		wantNote(t, "longer, without room", y, body, y, api.ErrBig)
		y.T.Off = true
		wantNote(t, "longer, without power", y, body, y, api.ErrDead)
	}
}

// P17.2: each record at each room and each Fuse: the tape's error, with that tape, and nothing else changed.
func TestTapeThatTakesNothing(t *testing.T) {
	s := after(t, fresh(t, 1000), put(begin(1)), seal(), note("c"), put(begin(2)))
	for _, d := range []deed{put(commit(2)), put(write(1, "key", "val")), seal(), note(""), note("body"), note(filler(251))} {
		b := plainText(d.record())
		for n := range len(b) {
			y := s
			y.T.Room = n
			wantDone(t, "without room", y, d, y, api.ErrFull)
			y.T.Fuse = n
			wantDone(t, "without room, and without power", y, d, y, api.ErrFull)
			y = Arm(s, n)
			torn := y
			torn.T = api.Tape{Safe: s.T.Safe, Wait: s.T.Wait + b[:n], Room: s.T.Room - n, Fuse: 0, Off: true}
			wantDone(t, "torn", y, d, torn, api.ErrDead)
			wantDone(t, "behind one that is torn", torn, d, torn, api.ErrDead)
		}
		y := s
		y.T.Room, y.T.Fuse = len(b), len(b)
		want, _ := plainDo(y, d)
		if want.T.Room != 0 || want.T.Fuse != 0 || want.T.Off {
			t.Fatal("the room and the power that are needed")
		}
		wantDone(t, "as much as is needed", y, d, want, api.OK)
	}
}

func wantDone(t *testing.T, what string, s api.Store, d deed, want api.Store, err api.Errno) {
	t.Helper()
	y, e := do(s, d)
	wantAnswer(t, what, y, e, want, err)
}

// R3, R4: nothing is written into what was handed in, nor into the room behind its lists; two stores go on from one.
func TestNothingIsKept(t *testing.T) {
	s := after(t, fresh(t, 1000), put(begin(1)), seal(), note("a"), put(begin(2)))
	s.Open = append(make([]api.Event, 0, 9), s.Open...)
	s.Hists = append(make([][]api.Event, 0, 9), s.Hists...)
	s.Certs = append(make([]string, 0, 9), s.Certs...)
	was := api.Store{T: s.T, Open: slices.Clone(s.Open[:2]), Hists: [][]api.Event{{begin(1)}, nil}, Certs: []string{"a", ""}}
	deeds := []deed{put(commit(1)), put(abort(2)), seal(), note("b"), note("c"), put(begin(3))}
	var first []api.Store
	for range 2 {
		for i, d := range deeds {
			want, e := plainDo(s, d)
			wantDone(t, "one of several", s, d, want, e)
			y, _ := do(s, d)
			if len(first) <= i {
				first = append(first, y)
			}
			for _, next := range deeds {
				far, _ := do(y, next)
				do(far, put(begin(4)))
				Crash(far, 1)
			}
			wantStore(t, "what was handed in, with what is behind it", api.Store{T: s.T, Open: s.Open[:2], Hists: s.Hists[:2], Certs: s.Certs[:2]}, was)
		}
		for i, d := range deeds {
			want, _ := plainDo(s, d)
			wantStore(t, "what came out at first", first[i], want)
		}
	}
}

// R3: what is put behind a seal isn't written into what was sealed.
func TestSealedStays(t *testing.T) {
	s := after(t, fresh(t, 1000), put(begin(1)), put(commit(1)), put(begin(2)), seal())
	after(t, s, put(begin(3)), put(begin(4)))
	s = after(t, s, put(begin(5)), put(begin(6)), seal(), put(begin(7)))
	want := [][]api.Event{{begin(1), commit(1), begin(2)}, {begin(5), begin(6)}}
	if !slices.EqualFunc(s.Hists, want, slices.Equal[[]api.Event]) {
		t.Error(shown(s))
	}
}

// R1: stores that no call made: more of all than there may be, a tape that tells something else.
func TestMadeByHand(t *testing.T) {
	s := api.Store{T: api.Tape{Safe: "\x01x", Wait: "\xff", Room: 1000, Fuse: -5}, Open: []api.Event{{Kind: 77}}, Hists: [][]api.Event{nil, {{}}}, Certs: []string{strings.Repeat("x", 70000)}}
	for _, d := range []deed{put(begin(1)), seal(), note("c")} {
		want, e := plainDo(s, d)
		wantDone(t, "made by hand", s, d, want, e)
	}
	s.Open = slices.Repeat([]api.Event{begin(1)}, 100)
	want, e := plainDo(s, seal())
	wantSeal(t, "of a hundred", s, want, e)
	if e != api.OK || len(want.Hists) != 3 {
		t.Error(e)
	}
}

// The document's examples.
func TestExamples(t *testing.T) {
	s := after(t, fresh(t, 100), put(begin(1)))
	sealed, err := Crash(after(t, s, seal()), 0)
	if err != api.OK || len(sealed.Hists) != 1 || !slices.Equal(sealed.Hists[0], []api.Event{begin(1)}) || len(sealed.Open) != 0 {
		t.Error(shown(sealed), err)
	}
	wantCrash(t, "nothing", s, 0, fresh(t, 100), api.OK)
}
