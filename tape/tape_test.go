package tape

import (
	"fmt"
	"math"
	"math/rand"
	"slices"
	"strings"
	"testing"

	"cartouche/api"
)

func shown(x api.Tape) string {
	return fmt.Sprintf("Safe %.60q, Wait %.60q, Room %d, Fuse %d, Off %t", x.Safe, x.Wait, x.Room, x.Fuse, x.Off)
}

func fresh(t *testing.T, room int) api.Tape {
	t.Helper()
	x, e := New(room)
	if e != api.OK {
		t.Fatalf("New(%d): %d", room, e)
	}
	return x
}

func written(t *testing.T, x api.Tape, l ...string) api.Tape {
	t.Helper()
	for _, rec := range l {
		y, e := Write(x, rec)
		if e != api.OK {
			t.Fatalf("Write of %.40q on %s: %d", rec, shown(x), e)
		}
		x = y
	}
	return x
}

func synced(t *testing.T, x api.Tape) api.Tape {
	t.Helper()
	y, e := Sync(x)
	if e != api.OK {
		t.Fatalf("Sync of %s: %d", shown(x), e)
	}
	return y
}

func wantTape(t *testing.T, what string, x, want api.Tape) {
	t.Helper()
	if x != want {
		t.Errorf("%s: %s, want %s", what, shown(x), shown(want))
	}
}

func wantWrite(t *testing.T, what string, x api.Tape, rec string, want api.Tape, err api.Errno) {
	t.Helper()
	y, e := Write(x, rec)
	wantTape(t, what, y, want)
	if e != err {
		t.Errorf("%s: %d, want %d", what, e, err)
	}
}

func wantSync(t *testing.T, what string, x, want api.Tape, err api.Errno) {
	t.Helper()
	y, e := Sync(x)
	wantTape(t, what, y, want)
	if e != err {
		t.Errorf("%s: %d, want %d", what, e, err)
	}
}

func wantScan(t *testing.T, s string, want []string, many int) {
	t.Helper()
	if l, n := Scan(s); !slices.Equal(l, want) || n != many {
		t.Errorf("Scan of %.40q: %.80q, %d, want %.80q, %d", s, l, n, want, many)
	}
}

func wantRead(t *testing.T, what string, x api.Tape, want ...string) {
	t.Helper()
	if l := Read(x); !slices.Equal(l, want) {
		t.Errorf("%s: %.80q, want %.80q", what, l, want)
	}
}

// P16.1: an empty tape; a room below 0.
func TestNew(t *testing.T) {
	for _, room := range []int{0, 1, 9, 100000, math.MaxInt} {
		x, e := New(room)
		wantTape(t, "New", x, api.Tape{Room: room, Fuse: -1})
		if e != api.OK {
			t.Errorf("New(%d): %d", room, e)
		}
	}
	for _, room := range []int{-1, -2, -100000, math.MinInt} {
		x, e := New(room)
		wantTape(t, "New of a room that may not be", x, api.Tape{})
		if e != api.ErrArg {
			t.Errorf("New(%d): %d", room, e)
		}
	}
}

// P16.1: the Fuse, and nothing else; nothing of a tape that is off.
func TestArm(t *testing.T) {
	tapes := []api.Tape{{}, {Fuse: -1}, {Room: 9, Fuse: 3}, {Safe: "\x01a", Wait: "\x01", Room: -4, Fuse: -7}, {Wait: "\x02ab", Room: math.MaxInt, Fuse: math.MaxInt}}
	for _, x := range tapes {
		for _, c := range []struct{ fuse, want int }{
			{0, 0}, {1, 1}, {2, 2}, {100, 100}, {math.MaxInt, math.MaxInt},
			{-1, -1}, {-2, -1}, {-100, -1}, {math.MinInt, -1},
		} {
			want := x
			want.Fuse = c.want
			wantTape(t, "Arm", Arm(x, c.fuse), want)
			off := x
			off.Off = true
			wantTape(t, "Arm of one that is off", Arm(off, c.fuse), off)
		}
	}
}

// P16.1: records, one behind the other, until one isn't of the form or isn't whole.
func TestScan(t *testing.T) {
	l250, l251, l256, longest := filler(250), filler(251), filler(256), filler(api.MaxText)
	for _, c := range []struct {
		s    string
		want []string
		many int
	}{
		{"", nil, 0},
		{"\x00", []string{""}, 1},
		{"\x00\x00\x00", []string{"", "", ""}, 3},
		{"\x01", nil, 0},
		{"\x01a", []string{"a"}, 2},
		{"\x01a\x02b", []string{"a"}, 2},
		{"\x01a\x02bc", []string{"a", "bc"}, 5},
		{"\x01a\x02bc\x00\x03de", []string{"a", "bc", ""}, 6},
		{"\x01\x00\x01\x01\x01\xfb\x01\xff", []string{"\x00", "\x01", "\xfb", "\xff"}, 8},
		{"\xfc", nil, 0},
		{"\xff\x00", nil, 0},
		{"\x01a\xfc\x01b", []string{"a"}, 2},
		{"\xfa" + l250, []string{l250}, 251},
		{"\xfa" + l250[:249], nil, 0},
		{"\xfb", nil, 0},
		{"\xfb\x00", nil, 0},
		{"\xfb\x00\xfb", nil, 0},
		{"\xfb\x00\xfb" + l251, []string{l251}, 254},
		{"\xfb\x00\xfb" + l251[:250], nil, 0},
		{"\xfb\x00\xfa" + l250, nil, 0},
		{"\xfb\x00\x01a", nil, 0},
		{"\xfb\x00\x00", nil, 0},
		{"\x01a\xfb\x00\x01b\x01c", []string{"a"}, 2},
		{"\xfb\x01\x00" + l256 + "\x01a\x01", []string{l256, "a"}, 261},
		{"\xfb\xff\xff" + longest, []string{longest}, 65538},
		{"\xfb\xff\xff" + longest[1:], nil, 0},
		{"\x00\xfb\xff\xff" + longest + "\x00" + "\xfb\xff\xff" + longest + "\x02a", []string{"", longest, "", longest}, 131078},
	} {
		wantScan(t, c.s, c.want, c.many)
	}
	many := strings.Repeat("\x01z", 70000)
	wantScan(t, many+"\x05z", slices.Repeat([]string{"z"}, 70000), 140000)
}

// P16.1: of each beginning of records those that are whole in it.
func TestScanOfBeginnings(t *testing.T) {
	l := []string{"a", "", filler(250), "bc", filler(251), filler(1000), ""}
	s, whole, end := plainTexts(l...), 0, 0
	for n := range len(s) + 1 {
		for whole < len(l) && n >= end+len(plainText(l[whole])) {
			end += len(plainText(l[whole]))
			whole++
		}
		wantScan(t, s[:n], l[:whole], end)
	}
	if whole != len(l) {
		t.Errorf("%d whole", whole)
	}
}

// P16.1: all texts of few bytes, and any bytes.
func TestScanByTheDocumentsWords(t *testing.T) {
	for _, s := range shortTexts(6) {
		l, n := plainScan(s)
		wantScan(t, s, l, n)
	}
	r := rand.New(rand.NewSource(1))
	for range 20000 {
		x := someTape(r)
		l, n := plainScan(x.Safe + x.Wait)
		wantScan(t, x.Safe+x.Wait, l, n)
	}
}

// P16.1: what is ranged over may be left early: the records ahead are the same.
func TestRecordsLeftEarly(t *testing.T) {
	l := []string{"a", "", "bc", filler(300)}
	for most := range len(l) + 1 {
		var got []string
		for end, rec := range records(plainTexts(l...) + "\x09") {
			if len(got) == most {
				break
			}
			got = append(got, rec)
			if end != len(plainTexts(got...)) {
				t.Errorf("%d bytes up to %q", end, got)
			}
		}
		if !slices.Equal(got, l[:most]) {
			t.Errorf("the first %d: %.80q", most, got)
		}
	}
}

// P16.1: what is safe, and what waits behind it, as one text: a record may begin in the one and end in the other; whatever else the tape tells.
func TestRead(t *testing.T) {
	s := plainTexts("a", "", "bcd", filler(300), "e")
	for _, rest := range []string{"", "\x02", "\xfc\x00", "\xfb\x00"} {
		for at := range len(s + rest) {
			x := api.Tape{Safe: (s + rest)[:at], Wait: (s + rest)[at:]}
			wantRead(t, "Read", x, "a", "", "bcd", filler(300), "e")
			x = api.Tape{Safe: x.Safe, Wait: x.Wait, Room: -9, Fuse: 2, Off: true}
			wantRead(t, "Read of one that is off", x, "a", "", "bcd", filler(300), "e")
		}
	}
	wantRead(t, "of nothing", api.Tape{})
	wantRead(t, "of one that is new", fresh(t, 9))
	wantRead(t, "Safe alone", api.Tape{Safe: "\x01a\x02b"}, "a")
	wantRead(t, "Wait alone", api.Tape{Wait: "\x01a\x02b"}, "a")
	wantRead(t, "torn in Safe, nothing behind it", api.Tape{Safe: "\x01a\x03b", Wait: "c"}, "a")
	wantRead(t, "no form in Safe", api.Tape{Safe: "\xff", Wait: "\x01a"})
}

// P16.2: what is written waits behind what waited, and takes its room; records of all forms.
func TestWrite(t *testing.T) {
	x := fresh(t, 100)
	wantWrite(t, "the first", x, "ab", api.Tape{Wait: "\x02ab", Room: 97, Fuse: -1}, api.OK)
	x = written(t, x, "ab")
	wantWrite(t, "the second", x, "", api.Tape{Wait: "\x02ab\x00", Room: 96, Fuse: -1}, api.OK)
	x = synced(t, written(t, x, ""))
	wantWrite(t, "behind a sync", x, "\x00\xff", api.Tape{Safe: "\x02ab\x00", Wait: "\x02\x00\xff", Room: 93, Fuse: -1}, api.OK)
	torn := api.Tape{Safe: "\x05a", Wait: "\x09b", Room: 3, Fuse: -4}
	wantWrite(t, "behind what is torn", torn, "c", api.Tape{Safe: "\x05a", Wait: "\x09b\x01c", Room: 1, Fuse: -4}, api.OK)
	for _, n := range []int{0, 1, 2, 249, 250, 251, 252, 255, 256, 257, 1000, 65534, api.MaxText} {
		b := plainText(filler(n))
		full := api.Tape{Wait: b, Fuse: -1}
		wantWrite(t, "just room", fresh(t, len(b)), filler(n), full, api.OK)
		full.Room = 1
		wantWrite(t, "more room", fresh(t, len(b)+1), filler(n), full, api.OK)
		less := fresh(t, len(b)-1)
		wantWrite(t, "a byte too little room", less, filler(n), less, api.ErrFull)
	}
	wide := fresh(t, math.MaxInt)
	wantWrite(t, "the most room", wide, "a", api.Tape{Wait: "\x01a", Room: math.MaxInt - 2, Fuse: -1}, api.OK)
}

// P16.2: each error alone, with the tape as it was, and of several the one that is named first.
func TestWriteRefuses(t *testing.T) {
	big := filler(api.MaxText + 1)
	for _, c := range []struct {
		what string
		t    api.Tape
		rec  string
		want api.Errno
	}{
		{"off", api.Tape{Room: 99, Fuse: -1, Off: true}, "a", api.ErrDead},
		{"off, of nothing", api.Tape{Room: 99, Fuse: 9, Off: true}, "", api.ErrDead},
		{"off and too long", api.Tape{Room: 1 << 20, Fuse: -1, Off: true}, big, api.ErrDead},
		{"off and no room", api.Tape{Safe: "\x00", Wait: "\x01", Fuse: -1, Off: true}, "a", api.ErrDead},
		{"off, too long, no room", api.Tape{Off: true}, big, api.ErrDead},
		{"too long", api.Tape{Room: 1 << 20, Fuse: -1}, big, api.ErrBig},
		{"much too long", api.Tape{Room: 1 << 20, Fuse: -1}, filler(1 << 18), api.ErrBig},
		{"too long, no room", api.Tape{Safe: "\x00", Wait: "\x01", Fuse: -1}, big, api.ErrBig},
		{"too long, no room, no power", api.Tape{}, big, api.ErrBig},
		{"too long, no power", api.Tape{Room: 1 << 20}, big, api.ErrBig},
		{"no room", api.Tape{Safe: "\x00", Wait: "\x01", Fuse: -1}, "", api.ErrFull},
		{"no room and no power", api.Tape{Room: 2}, "ab", api.ErrFull},
		{"no room and too little power", api.Tape{Room: 2, Fuse: 1}, "ab", api.ErrFull},
		{"no room and power", api.Tape{Room: 2, Fuse: 3}, "ab", api.ErrFull},
		{"a room below 0", api.Tape{Room: -1, Fuse: -1}, "", api.ErrFull},
		{"a room below 0, no power", api.Tape{Room: -1}, "", api.ErrFull},
		{"the lowest room", api.Tape{Room: math.MinInt, Fuse: math.MinInt}, "a", api.ErrFull},
	} {
		wantWrite(t, c.what, c.t, c.rec, c.t, c.want)
	}
}

// P16.2: where the power goes in a record, what it was enough for waits; where it is just enough, it doesn't go.
func TestWriteWithoutPower(t *testing.T) {
	for _, rec := range []string{"", "a", "abc", filler(250), filler(251), filler(300)} {
		b := plainText(rec)
		for fuse := range len(b) {
			x := Arm(written(t, fresh(t, 1000), "x"), fuse)
			want := api.Tape{Wait: "\x01x" + b[:fuse], Room: 998 - fuse, Off: true}
			wantWrite(t, "torn", x, rec, want, api.ErrDead)
			y, _ := Write(x, rec)
			wantWrite(t, "behind the torn one", y, "", want, api.ErrDead)
			wantSync(t, "of the torn one", y, want, api.ErrDead)
			wantTape(t, "Arm of the torn one", Arm(y, 100), want)
			wantRead(t, "Read of the torn one", y, "x")
		}
		for more := range 4 {
			x := Arm(written(t, fresh(t, 1000), "x"), len(b)+more)
			wantWrite(t, "just not torn", x, rec, api.Tape{Wait: "\x01x" + b, Room: 998 - len(b), Fuse: more}, api.OK)
		}
	}
	x := api.Tape{Safe: "\x01", Wait: "a", Room: 2, Fuse: 1}
	wantWrite(t, "just room, torn", x, "b", api.Tape{Safe: "\x01", Wait: "a\x01", Room: 1, Off: true}, api.ErrDead)
	x = api.Tape{Room: 2, Fuse: math.MaxInt}
	wantWrite(t, "the most power", x, "b", api.Tape{Wait: "\x01b", Fuse: math.MaxInt - 2}, api.OK)
	x = api.Tape{Room: 2, Fuse: math.MinInt}
	wantWrite(t, "a fuse far below 0 stays", x, "b", api.Tape{Wait: "\x01b", Fuse: math.MinInt}, api.OK)
}

// P16.2: what waits is safe, behind what was; the power doesn't go in it.
func TestSync(t *testing.T) {
	for _, x := range []api.Tape{
		{}, {Fuse: -1}, {Safe: "\x01a", Room: 3}, {Wait: "\x01a", Room: 3, Fuse: 2},
		{Safe: "\x01a", Wait: "\x02bc\x00", Room: -3, Fuse: -9}, {Safe: "\x03a", Wait: "b\x09", Room: math.MaxInt, Fuse: math.MinInt},
	} {
		want := x
		want.Safe, want.Wait = x.Safe+x.Wait, ""
		wantSync(t, "Sync", x, want, api.OK)
		wantSync(t, "Sync again", want, want, api.OK)
		x.Off = true
		wantSync(t, "Sync of one that is off", x, x, api.ErrDead)
	}
}

// P16.3: how many bytes are kept, on both sides of each record's end; the room of all others is there again.
func TestCrash(t *testing.T) {
	x := written(t, synced(t, written(t, fresh(t, 20), "ab")), "cd", "", "efg")
	torn, e := Write(Arm(x, 2), "hi")
	if e != api.ErrDead {
		t.Fatal(e)
	}
	for _, c := range []struct {
		keep int
		safe string
	}{
		{math.MinInt, "\x02ab"}, {-1, "\x02ab"}, {0, "\x02ab"}, {1, "\x02ab"}, {2, "\x02ab"},
		{3, "\x02ab\x02cd"}, {4, "\x02ab\x02cd\x00"}, {5, "\x02ab\x02cd\x00"}, {7, "\x02ab\x02cd\x00"},
		{8, "\x02ab\x02cd\x00\x03efg"}, {9, "\x02ab\x02cd\x00\x03efg"}, {10, "\x02ab\x02cd\x00\x03efg"},
		{11, "\x02ab\x02cd\x00\x03efg"}, {1000, "\x02ab\x02cd\x00\x03efg"}, {math.MaxInt, "\x02ab\x02cd\x00\x03efg"},
	} {
		want := api.Tape{Safe: c.safe, Room: 20 - len(c.safe), Fuse: -1}
		wantTape(t, "Crash", Crash(x, c.keep), want)
		wantTape(t, "Crash of what was torn", Crash(torn, c.keep), want)
	}
	for _, n := range []int{250, 251, 65535} {
		x, b := written(t, fresh(t, 70000), filler(n)), plainText(filler(n))
		wantTape(t, "a byte too few", Crash(x, len(b)-1), api.Tape{Room: 70000, Fuse: -1})
		wantTape(t, "just all", Crash(x, len(b)), api.Tape{Safe: b, Room: 70000 - len(b), Fuse: -1})
	}
}

// P16.3: of tapes made by hand what is safe is cut too, where no record is; the Fuse is as that of a new one, and the power is there.
func TestCrashOfAnyTape(t *testing.T) {
	for _, c := range []struct {
		what string
		t    api.Tape
		keep int
		want api.Tape
	}{
		{"nothing", api.Tape{}, 0, api.Tape{Fuse: -1}},
		{"armed", api.Tape{Safe: "\x01a", Room: 4, Fuse: 3}, 0, api.Tape{Safe: "\x01a", Room: 4, Fuse: -1}},
		{"a fuse far below 0", api.Tape{Safe: "\x01a", Room: 4, Fuse: -3}, 0, api.Tape{Safe: "\x01a", Room: 4, Fuse: -1}},
		{"off", api.Tape{Safe: "\x01a", Room: 4, Off: true}, 9, api.Tape{Safe: "\x01a", Room: 4, Fuse: -1}},
		{"torn in Safe", api.Tape{Safe: "\x01a\x03b", Room: 4}, 9, api.Tape{Safe: "\x01a", Room: 6, Fuse: -1}},
		{"begun in Safe, whole in Wait", api.Tape{Safe: "\x01a\x03b", Wait: "cd", Room: 4}, 2, api.Tape{Safe: "\x01a\x03bcd", Room: 4, Fuse: -1}},
		{"begun in Safe, torn in Wait", api.Tape{Safe: "\x01a\x03b", Wait: "cd", Room: 4}, 1, api.Tape{Safe: "\x01a", Room: 8, Fuse: -1}},
		{"no form in Safe", api.Tape{Safe: "\xff\x01a", Wait: "\x01b", Room: 4}, 9, api.Tape{Room: 9, Fuse: -1}},
		{"no form in Wait", api.Tape{Safe: "\x01a", Wait: "\x00\xfc\x00", Room: 4}, 9, api.Tape{Safe: "\x01a\x00", Room: 6, Fuse: -1}},
		{"a room below 0", api.Tape{Wait: "\x05a", Room: -7}, 9, api.Tape{Room: -5, Fuse: -1}},
		{"a room that goes round", api.Tape{Wait: "\x05a", Room: math.MaxInt}, 9, api.Tape{Room: math.MinInt + 1, Fuse: -1}},
		{"a room that just doesn't", api.Tape{Safe: "\x01", Wait: "a\x05a", Room: math.MaxInt - 2}, 9, api.Tape{Safe: "\x01a", Room: math.MaxInt, Fuse: -1}},
	} {
		wantTape(t, c.what, Crash(c.t, c.keep), c.want)
	}
}

// R3, R4: what is handed in stays, what came out is nobody else's, and the same is answered again.
func TestNothingIsKept(t *testing.T) {
	x := written(t, synced(t, written(t, fresh(t, 40), "ab")), "cd")
	was := x
	for range 2 {
		wantWrite(t, "Write", x, "e", api.Tape{Safe: "\x02ab", Wait: "\x02cd\x01e", Room: 32, Fuse: -1}, api.OK)
		wantSync(t, "Sync", x, api.Tape{Safe: "\x02ab\x02cd", Room: 34, Fuse: -1}, api.OK)
		wantTape(t, "Crash", Crash(x, 1), api.Tape{Safe: "\x02ab", Room: 37, Fuse: -1})
		wantTape(t, "Arm", Arm(x, 1), api.Tape{Safe: "\x02ab", Wait: "\x02cd", Room: 34, Fuse: 1})
		wantRead(t, "Read", x, "ab", "cd")
		wantTape(t, "what was handed in", x, was)
		l, m := Read(x), Read(x)
		l[0] = "z"
		if m[0] != "ab" {
			t.Error("two lists share their elements")
		}
		l, _ = Scan(x.Safe)
		l[0] = "z"
		wantScan(t, x.Safe, []string{"ab"}, 3)
	}
}

// The document's examples.
func TestExamples(t *testing.T) {
	x := written(t, fresh(t, 9), "ab")
	wantWrite(t, "no room", x, "0123456789", x, api.ErrFull)
	wantRead(t, "Crash(2)", Crash(x, 2))
	wantRead(t, "Crash(3)", Crash(x, 3), "ab")
}
