package event

import (
	"math"
	"math/rand"
	"slices"
	"strings"
	"testing"

	"cartouche/api"
)

func filler(n int) string {
	b := make([]byte, n)
	for i := range b {
		b[i] = byte(i*7 + n)
	}
	return string(b)
}

// edgeNumbers are those beside the bounds of kinds and transactions, and such as look like one of these in their lowest bytes.
func edgeNumbers() []int {
	l := []int{math.MinInt, math.MinInt + 1, -257, -256, -255, -3, -2, -1, math.MaxInt - 1, math.MaxInt}
	for n := range 35 {
		l = append(l, n)
	}
	for _, bits := range []int{8, 16, 31, 32, 62} {
		for n := range 6 {
			l = append(l, 1<<bits+n, 1<<bits+31+n, -1<<bits+n)
		}
	}
	return append(l, 64, 127, 128, 254, 255)
}

// edgeLengths are those beside the bounds of keys and values, and those of a text's form.
var edgeLengths = []int{0, 1, 2, 31, 32, 33, 34, 64, 250, 251, 256, 257, 288, 65535, 65536, 65537, 1 << 17}

// plainMay is May by the document's words.
func plainMay(kind, txn, key, val int) bool {
	if txn < 1 || txn > 32 {
		return false
	}
	switch kind {
	case 1, 4, 5:
		return key == 0 && val == 0
	case 2:
		return 1 <= key && key <= 32 && 0 <= val && val <= 32
	case 3:
		return 1 <= key && key <= 32 && 1 <= val && val <= 32
	}
	return false
}

// plainBytes are those of an event that may be, by the document's words.
func plainBytes(x api.Event) string {
	b := []byte{byte(x.Kind), byte(x.Txn)}
	if x.Kind == 2 || x.Kind == 3 {
		b = append(b, byte(len(x.Key)))
		b = append(b, x.Key...)
		b = append(b, byte(len(x.Val)))
		b = append(b, x.Val...)
	}
	return string(b)
}

// plainTake goes through all that an event's bytes may be cut into.
func plainTake(s string) (api.Event, bool) {
	if len(s) < 2 {
		return api.Event{}, false
	}
	x := api.Event{Kind: int(s[0]), Txn: int(s[1])}
	if plainMay(x.Kind, x.Txn, 0, 0) && s == plainBytes(x) {
		return x, true
	}
	for key := 1; key <= 32 && 3+key < len(s); key++ {
		x.Key, x.Val = s[3:3+key], s[4+key:]
		if plainMay(x.Kind, x.Txn, key, len(x.Val)) && s == plainBytes(x) {
			return x, true
		}
	}
	return api.Event{}, false
}

// someEvent is one that may be.
func someEvent(r *rand.Rand) api.Event {
	x := api.Event{Kind: 1 + r.Intn(5), Txn: 1 + r.Intn(32)}
	if x.Kind == api.ERead || x.Kind == api.EWrite {
		x.Key = filler(1 + r.Intn(32))
		x.Val = filler(r.Intn(33))
		if x.Kind == api.EWrite && x.Val == "" {
			x.Val = "\x00"
		}
	}
	return x
}

func someHistory(r *rand.Rand, many int) []api.Event {
	h := make([]api.Event, many)
	for i := range h {
		h[i] = someEvent(r)
	}
	return h
}

// manyEvents are unlike ones that may be: all kinds and transactions, and texts that are easily mistaken for each other.
func manyEvents() []api.Event {
	var l []api.Event
	texts := []string{"", "\x00", "\x01", "\x02", "a", "b", "\x00\x00", "\x01a", "a\x01", "\x01a\x01b", "ab", "\xfb", "\xff", filler(31), filler(32), "\xfb\x00\xfb", strings.Repeat("\x00", 32), strings.Repeat("\xff", 32)}
	for txn := 1; txn <= 32; txn++ {
		for kind := 1; kind <= 5; kind++ {
			for _, key := range texts {
				for _, val := range texts {
					if plainMay(kind, txn, len(key), len(val)) {
						l = append(l, api.Event{Kind: kind, Txn: txn, Key: key, Val: val})
					}
				}
			}
		}
	}
	return l
}

func wantMay(t *testing.T, x api.Event, want bool) {
	t.Helper()
	if May(x) != want {
		t.Errorf("May of %d, %d, %d and %d bytes: %t", x.Kind, x.Txn, len(x.Key), len(x.Val), !want)
	}
	s, e := Bytes(x)
	if want && (s != plainBytes(x) || e != api.OK) {
		t.Errorf("Bytes of %d, %d, %x, %x: %x, %d", x.Kind, x.Txn, x.Key, x.Val, s, e)
	}
	if !want && (s != "" || e != api.ErrArg) {
		t.Errorf("Bytes of %d, %d, %d and %d bytes, which may not be: %x, %d", x.Kind, x.Txn, len(x.Key), len(x.Val), s, e)
	}
}

func wantNoForm(t *testing.T, what, s string) {
	t.Helper()
	if x, e := Take(s); x != (api.Event{}) || e != api.ErrForm {
		t.Errorf("%s, Take of %.80x: %x, %d", what, s, x, e)
	}
}

func wantTaken(t *testing.T, s string, want api.Event) {
	t.Helper()
	if x, e := Take(s); x != want || e != api.OK {
		t.Errorf("Take of %x: %x, %d, want %x", s, x, e, want)
	}
}

// P6.1: the chapter's examples, and one of each kind, by bytes that are written out.
func TestExamples(t *testing.T) {
	for _, c := range []struct {
		x    api.Event
		want string
	}{
		{api.Event{Kind: api.EBegin, Txn: 3}, "\x01\x03"},
		{api.Event{Kind: api.EWrite, Txn: 3, Key: "a", Val: "b"}, "\x03\x03\x01a\x01b"},
		{api.Event{Kind: api.ERead, Txn: 1, Key: "a", Val: "b"}, "\x02\x01\x01a\x01b"},
		{api.Event{Kind: api.ERead, Txn: 32, Key: "ab"}, "\x02\x20\x02ab\x00"},
		{api.Event{Kind: api.EWrite, Txn: 31, Key: "\x00", Val: "\xff\xfb"}, "\x03\x1f\x01\x00\x02\xff\xfb"},
		{api.Event{Kind: api.ECommit, Txn: 32}, "\x04\x20"},
		{api.Event{Kind: api.EAbort, Txn: 1}, "\x05\x01"},
		{api.Event{Kind: api.EWrite, Txn: 1, Key: filler(32), Val: filler(32)}, "\x03\x01\x20" + filler(32) + "\x20" + filler(32)},
	} {
		if s, e := Bytes(c.x); s != c.want || e != api.OK {
			t.Errorf("%x: %x, %d, want %x", c.x, s, e, c.want)
		}
		wantTaken(t, c.want, c.x)
		wantMay(t, c.x, true)
	}
	wantMay(t, api.Event{}, false)
}

// P6.1: kinds of 1 to 5 and transactions of 1 to 32, and no other ones, not even such as are these in their lowest byte.
func TestMayByNumbers(t *testing.T) {
	for _, kind := range edgeNumbers() {
		for _, txn := range edgeNumbers() {
			wantMay(t, api.Event{Kind: kind, Txn: txn}, plainMay(kind, txn, 0, 0))
			wantMay(t, api.Event{Kind: kind, Txn: txn, Key: "a"}, plainMay(kind, txn, 1, 0))
			wantMay(t, api.Event{Kind: kind, Txn: txn, Key: "a", Val: "b"}, plainMay(kind, txn, 1, 1))
		}
	}
}

// P6.1: keys and values of each kind, at the edges of their lengths, whatever their bytes are.
func TestMayByLengths(t *testing.T) {
	for kind := 0; kind <= 6; kind++ {
		for _, key := range edgeLengths {
			for _, val := range edgeLengths {
				want := plainMay(kind, 7, key, val)
				wantMay(t, api.Event{Kind: kind, Txn: 7, Key: filler(key), Val: filler(val)}, want)
				wantMay(t, api.Event{Kind: kind, Txn: 7, Key: strings.Repeat("\x00", key), Val: strings.Repeat("\xff", val)}, want)
			}
		}
	}
	for key := range 35 {
		for val := range 35 {
			for kind := range 7 {
				wantMay(t, api.Event{Kind: kind, Txn: 32, Key: filler(key), Val: filler(val)}, plainMay(kind, 32, key, val))
			}
		}
	}
}

// P6.1: all texts of at most two bytes: an event without a key, or none.
func TestTakeOfTwoBytes(t *testing.T) {
	wantNoForm(t, "nothing", "")
	for a := range 256 {
		wantNoForm(t, "one byte", string([]byte{byte(a)}))
		for b := range 256 {
			s := string([]byte{byte(a), byte(b)})
			if plainMay(a, b, 0, 0) {
				wantTaken(t, s, api.Event{Kind: a, Txn: b})
			} else {
				wantNoForm(t, "two bytes", s)
			}
		}
	}
}

// P6.1: what is missing, too much, too long, empty, or in another form than its own.
func TestTakeRefuses(t *testing.T) {
	for what, s := range map[string]string{
		"a byte behind a begin":           "\x01\x03\x00",
		"texts behind a begin":            "\x01\x03\x01a\x01b",
		"empty texts behind a commit":     "\x04\x03\x00\x00",
		"a key behind an abort":           "\x05\x03\x01a",
		"no texts of a read":              "\x02\x03",
		"no texts of a write":             "\x03\x03",
		"no value of a read":              "\x02\x03\x01a",
		"no value of a write":             "\x03\x03\x01a",
		"an empty key of a read":          "\x02\x03\x00\x01b",
		"an empty key of a write":         "\x03\x03\x00\x01b",
		"an empty key and an empty value": "\x02\x03\x00\x00",
		"an empty value of a write":       "\x03\x03\x01a\x00",
		"half of a key":                   "\x02\x03\x02a",
		"half of a value":                 "\x02\x03\x01a\x02b",
		"a byte behind a read":            "\x02\x03\x01a\x01b\x00",
		"a byte behind an empty value":    "\x02\x03\x01a\x00\x00",
		"a text behind a write":           "\x03\x03\x01a\x01b\x01c",
		"33 bytes of a key":               "\x02\x03\x21" + filler(33) + "\x01b",
		"33 bytes of a value":             "\x02\x03\x01a\x21" + filler(33),
		"33 bytes of a value, none there": "\x02\x03\x01a\x21",
		"250 bytes of a value":            "\x02\x03\x01a\xfa" + filler(250),
		"251 bytes of a value":            "\x02\x03\x01a\xfb\x00\xfb" + filler(251),
		"251 bytes of a key":              "\x03\x03\xfb\x00\xfb" + filler(251) + "\x01b",
		"65535 bytes of a value":          "\x03\x03\x01a\xfb\xff\xff" + filler(65535),
		"a short key in the long form":    "\x03\x03\xfb\x00\x01a\x01b",
		"a short value in the long form":  "\x03\x03\x01a\xfb\x00\x01b",
		"no value in the long form":       "\x02\x03\x01a\xfb\x00\x00",
		"a long form that is cut short":   "\x02\x03\x01a\xfb\x00",
		"a long form that has only begun": "\x02\x03\x01a\xfb",
		"a length that none has":          "\x02\x03\x01a\xfc",
		"the highest length":              "\x02\x03\xffa\x01b",
		"a kind of 0":                     "\x00\x03",
		"a kind of 0, with texts":         "\x00\x03\x01a\x01b",
		"a kind of 6, with texts":         "\x06\x03\x01a\x01b",
		"a kind of 255":                   "\xff\x03\x01a\x01b",
		"a transaction of 0":              "\x03\x00\x01a\x01b",
		"a transaction of 33":             "\x03\x21\x01a\x01b",
		"a transaction of 255":            "\x02\xff\x01a\x01b",
		"a transaction as a number":       "\x01\x01\x03",
	} {
		wantNoForm(t, what, s)
	}
}

// P6.1: no beginning of an event's bytes is one's, nor do they bear anything behind or ahead of them.
func TestTakeCutShort(t *testing.T) {
	r := rand.New(rand.NewSource(1))
	for range 500 {
		x := someEvent(r)
		s := plainBytes(x)
		wantTaken(t, s, x)
		for i := range len(s) {
			wantNoForm(t, "cut short", s[:i])
		}
		wantNoForm(t, "a byte behind", s+"\x00")
		wantNoForm(t, "an event behind", s+s)
		wantNoForm(t, "a byte ahead", "\x00"+s)
	}
}

// P6.1: Take says of any bytes what the document's words say of them.
func TestTakeByWords(t *testing.T) {
	r := rand.New(rand.NewSource(2))
	taken, refused := 0, 0
	for range 60000 {
		b := []byte(plainBytes(api.Event{Kind: r.Intn(7), Txn: r.Intn(35), Key: filler(r.Intn(35)), Val: filler(r.Intn(35))}))
		for range r.Intn(3) {
			b[r.Intn(len(b))] = byte(r.Intn(40))
		}
		s := string(b)
		if x, ok := plainTake(s); ok {
			taken++
			wantTaken(t, s, x)
		} else {
			refused++
			wantNoForm(t, "any bytes", s)
		}
	}
	if taken < 5000 || refused < 5000 {
		t.Errorf("%d taken, %d refused", taken, refused)
	}
}

// P6.1: each byte of an event's bytes, as each other one.
func TestTakeOfAnotherByte(t *testing.T) {
	for _, x := range []api.Event{{Kind: api.EBegin, Txn: 1}, {Kind: api.ERead, Txn: 2, Key: "\x01\x02", Val: ""}, {Kind: api.EWrite, Txn: 32, Key: "\x00\x01\x02\x03", Val: "\x00\x00"}} {
		s := plainBytes(x)
		for i := range len(s) {
			for by := 1; by < 256; by++ {
				b := []byte(s)
				b[i] ^= byte(by)
				if y, ok := plainTake(string(b)); ok {
					wantTaken(t, string(b), y)
				} else {
					wantNoForm(t, "another byte", string(b))
				}
			}
		}
	}
}

// P6.1: Same is told by each field, each place, and how many there are; events that may not be are held against each other too.
func TestSame(t *testing.T) {
	odd := []api.Event{{}, {Kind: -1, Txn: 1 << 40, Key: filler(300), Val: "x"}, {Kind: 6, Val: "v"}}
	histories := [][]api.Event{odd, someHistory(rand.New(rand.NewSource(3)), 5), make([]api.Event, 300)}
	for _, h := range histories {
		if !Same(h, h) || !Same(h, slices.Clone(h)) {
			t.Errorf("%d events are not the same as themselves", len(h))
		}
		for i := range h {
			for what, change := range map[string]func(*api.Event){
				"another kind":              func(x *api.Event) { x.Kind++ },
				"a kind of one low byte":    func(x *api.Event) { x.Kind += 256 },
				"another transaction":       func(x *api.Event) { x.Txn-- },
				"a transaction far away":    func(x *api.Event) { x.Txn += 1 << 32 },
				"a byte behind the key":     func(x *api.Event) { x.Key += "\x00" },
				"a byte ahead of the value": func(x *api.Event) { x.Val = "\x00" + x.Val },
				"key and value swapped":     func(x *api.Event) { x.Key, x.Val = x.Val+"y", x.Key },
				"kind and transaction":      func(x *api.Event) { x.Kind, x.Txn = x.Txn, x.Kind+1 },
			} {
				other := slices.Clone(h)
				change(&other[i])
				if Same(h, other) || Same(other, h) {
					t.Errorf("%s at %d of %d: the same", what, i, len(h))
				}
			}
			if Same(h, h[:i]) || Same(h[:i], h) || !Same(h[:i], slices.Clone(h[:i])) {
				t.Errorf("%d events and %d of them", len(h), i)
			}
		}
		if Same(h, append(slices.Clone(h), api.Event{})) || Same(append(slices.Clone(h), api.Event{}), h) {
			t.Errorf("%d events and one more: the same", len(h))
		}
	}
	if !Same(nil, nil) || !Same(nil, []api.Event{}) || !Same([]api.Event{}, nil) || Same(nil, odd) || Same(odd, nil) {
		t.Error("no events")
	}
	a, b := api.Event{Kind: api.EBegin, Txn: 1}, api.Event{Kind: api.EBegin, Txn: 2}
	if Same([]api.Event{a, b}, []api.Event{b, a}) {
		t.Error("in another order: the same")
	}
}

// P6.2, P6.3: histories of all lengths that may be are written, each event by its bytes, and come back.
func TestLeavesAndBack(t *testing.T) {
	r := rand.New(rand.NewSource(4))
	for many := range api.MaxEvents + 1 {
		h := someHistory(r, many)
		l, e := Leaves(h)
		if len(l) != many || e != api.OK {
			t.Fatalf("Leaves of %d: %d, %d", many, len(l), e)
		}
		for i := range h {
			if l[i] != plainBytes(h[i]) {
				t.Errorf("leaf %d of %d: %x, want %x", i, many, l[i], plainBytes(h[i]))
			}
		}
		back, e := Back(l)
		if !slices.Equal(back, h) || !Same(back, h) || e != api.OK {
			t.Errorf("Back of %d: %d, %d", many, len(back), e)
		}
	}
	if l, e := Leaves(nil); len(l) != 0 || e != api.OK {
		t.Errorf("Leaves of nil: %q, %d", l, e)
	}
	if h, e := Back(nil); len(h) != 0 || e != api.OK {
		t.Errorf("Back of nil: %x, %d", h, e)
	}
}

// P6.2: one that may not be, at each place; and events that no history would have so are written all the same.
func TestLeavesRefuses(t *testing.T) {
	r := rand.New(rand.NewSource(5))
	for _, many := range []int{1, 2, 9, 255, 256} {
		for _, wrong := range []api.Event{{}, {Kind: api.EBegin, Txn: 33}, {Kind: 6, Txn: 1}, {Kind: api.ECommit, Txn: 1, Val: "v"}, {Kind: api.EWrite, Txn: 1, Key: "k"}, {Kind: api.ERead, Txn: 1, Key: filler(33)}, {Kind: 257, Txn: 1}} {
			for _, at := range []int{0, many / 2, many - 1} {
				h := someHistory(r, many)
				h[at] = wrong
				if l, e := Leaves(h); len(l) != 0 || e != api.ErrArg {
					t.Errorf("%x at %d of %d: %d, %d", wrong, at, many, len(l), e)
				}
			}
		}
	}
	unformed := []api.Event{{Kind: api.ECommit, Txn: 1}, {Kind: api.EBegin, Txn: 1}, {Kind: api.EBegin, Txn: 1}}
	if l, e := Leaves(unformed); !slices.Equal(l, []string{"\x04\x01", "\x01\x01", "\x01\x01"}) || e != api.OK {
		t.Errorf("%q, %d", l, e)
	}
}

// P6.2: one that Take refuses, at each place.
func TestBackRefuses(t *testing.T) {
	r := rand.New(rand.NewSource(6))
	for _, many := range []int{1, 2, 9, 255, 256} {
		for _, wrong := range []string{"", "\x01", "\x01\x21", "\x02\x03\x01a", "\x03\x03\x01a\x00", "\x01\x01\x00", "\x02\x03\x21" + filler(33) + "\x00"} {
			for _, at := range []int{0, many / 2, many - 1} {
				l, _ := Leaves(someHistory(r, many))
				l[at] = wrong
				if h, e := Back(l); len(h) != 0 || e != api.ErrForm {
					t.Errorf("%x at %d of %d: %d, %d", wrong, at, many, len(h), e)
				}
			}
		}
	}
}

// P6.2: more than may be, ahead of what else is wrong with them.
func TestMoreThanMayBe(t *testing.T) {
	for _, many := range []int{257, 258, 512, 513, 4096, 65536, 1 << 17} {
		h := make([]api.Event, many)
		if l, e := Leaves(h); len(l) != 0 || e != api.ErrBig {
			t.Errorf("Leaves of %d that may not be: %d, %d", many, len(l), e)
		}
		l := make([]string, many)
		if h, e := Back(l); len(h) != 0 || e != api.ErrBig {
			t.Errorf("Back of %d that are refused: %d, %d", many, len(h), e)
		}
		for i := range many {
			h[i], l[i] = api.Event{Kind: api.EBegin, Txn: 1}, "\x01\x01"
		}
		if l, e := Leaves(h); len(l) != 0 || e != api.ErrBig {
			t.Errorf("Leaves of %d: %d, %d", many, len(l), e)
		}
		if h, e := Back(l); len(h) != 0 || e != api.ErrBig {
			t.Errorf("Back of %d: %d, %d", many, len(h), e)
		}
	}
}

// P6.3: what was written is taken as it was; no two unlike events have the same bytes.
func TestOneForm(t *testing.T) {
	seen := map[string]api.Event{}
	for _, x := range manyEvents() {
		s, e := Bytes(x)
		if e != api.OK {
			t.Fatalf("Bytes of %x: %d", x, e)
		}
		if y, there := seen[s]; there {
			t.Errorf("%x and %x: %x", x, y, s)
		}
		seen[s] = x
		wantTaken(t, s, x)
	}
	if len(seen) < 10000 {
		t.Errorf("%d events", len(seen))
	}
}

// P6.3: what is taken is written by the same bytes.
func TestTakenIsWritten(t *testing.T) {
	r := rand.New(rand.NewSource(7))
	taken := 0
	for range 200000 {
		b := make([]byte, 2+r.Intn(8))
		for i := range b {
			b[i] = byte(r.Intn(5))
		}
		x, e := Take(string(b))
		if e != api.OK {
			continue
		}
		taken++
		if s, e := Bytes(x); s != string(b) || e != api.OK {
			t.Fatalf("%x is taken as %x, which is written %x, %d", b, x, s, e)
		}
	}
	if taken < 1000 {
		t.Errorf("%d taken", taken)
	}
}

// R3: what is handed in stays as it was, and what came out is not changed by another call.
func TestNothingIsWrittenInto(t *testing.T) {
	r := rand.New(rand.NewSource(8))
	h := someHistory(r, 20)
	kept := slices.Clone(h)
	l, _ := Leaves(h[:10])
	leaves := slices.Clone(l)
	back, _ := Back(l)
	if !slices.Equal(h, kept) || !slices.Equal(l, leaves) {
		t.Error("what was handed in is changed")
	}
	back[0].Kind, l[0] = 9, ""
	other, _ := Leaves(h[10:])
	Back(other)
	if !slices.Equal(h, kept) || !slices.Equal(l[1:], leaves[1:]) || !slices.Equal(back[1:], kept[1:10]) {
		t.Error("what came out hangs on another call, or on what was handed in")
	}
	again, e := Leaves(h[:10])
	if !slices.Equal(again, leaves) || e != api.OK {
		t.Errorf("%q, %d", again, e)
	}
}
