package redact

import (
	"fmt"
	"math"
	"math/rand"
	"slices"
	"strings"
	"testing"

	"cartouche/api"
	"cartouche/blake"
	"cartouche/event"
)

func filler(n int) string {
	b := make([]byte, n)
	for i := range b {
		b[i] = byte(i*7 + n)
	}
	return string(b)
}

// edgeLengths are those beside the bounds of seeds, keys and values, of a sum's block, and of texts.
var edgeLengths = []int{0, 1, 2, 31, 32, 33, 34, 62, 63, 64, 65, 250, 251, 256, 257, 288, 65535, 65536}

// wrongSeeds are too short or too long, some of them by a length that is 1 to 32 in its lowest byte.
func wrongSeeds() []string {
	return []string{"", filler(33), filler(34), filler(64), filler(256), filler(257), filler(288), filler(65537)}
}

// wrongEvents may not be, each for a reason of its own.
func wrongEvents() []api.Event {
	return []api.Event{
		{},
		{Kind: 6, Txn: 1},
		{Kind: -1, Txn: 1, Key: "a", Val: "b"},
		{Kind: 258, Txn: 1, Key: "a", Val: "b"},
		{Kind: math.MinInt, Txn: math.MaxInt},
		{Kind: api.EBegin, Txn: 0},
		{Kind: api.EBegin, Txn: 33},
		{Kind: api.EBegin, Txn: 1, Key: "a"},
		{Kind: api.ECommit, Txn: 1, Val: "a"},
		{Kind: api.EAbort, Txn: 1, Key: "a", Val: "b"},
		{Kind: api.ERead, Txn: 1},
		{Kind: api.ERead, Txn: 1, Val: "b"},
		{Kind: api.ERead, Txn: 1, Key: filler(33)},
		{Kind: api.ERead, Txn: 1, Key: "a", Val: filler(33)},
		{Kind: api.ERead, Txn: -1, Key: "a", Val: "b"},
		{Kind: api.EWrite, Txn: 1, Key: "a"},
		{Kind: api.EWrite, Txn: 1, Val: "b"},
		{Kind: api.EWrite, Txn: 33, Key: "a", Val: "b"},
		{Kind: api.EWrite, Txn: 1, Key: filler(65536), Val: "b"},
		{Kind: api.EWrite, Txn: 1, Key: "a", Val: filler(288)},
	}
}

// plainTag is a tag by the document's words.
func plainTag(t *testing.T, seed string, mark byte, text string) string {
	t.Helper()
	s, e := blake.Keyed(seed, string(append([]byte{mark}, text...)))
	if e != api.OK {
		t.Fatalf("no tag by a seed of %d bytes: %d", len(seed), e)
	}
	return s
}

func hasTexts(x api.Event) bool { return x.Kind == 2 || x.Kind == 3 }

// tagged are events with what a function makes of the texts that have tags.
func tagged(h []api.Event, tag func(mark byte, text string) string) []api.Event {
	var l []api.Event
	for _, x := range h {
		if hasTexts(x) {
			x.Key = tag(5, x.Key)
			if x.Val != "" {
				x.Val = tag(6, x.Val)
			}
		}
		l = append(l, x)
	}
	return l
}

func plainAll(t *testing.T, seed string, h []api.Event) []api.Event {
	t.Helper()
	return tagged(h, func(mark byte, text string) string { return plainTag(t, seed, mark, text) })
}

// plainShape looks for the first one from the beginning on, each time.
func plainShape(h []api.Event) []api.Event {
	var l []api.Event
	for _, x := range h {
		key := slices.IndexFunc(h, func(y api.Event) bool { return y.Key == x.Key })
		val := slices.IndexFunc(h, func(y api.Event) bool { return y.Val == x.Val })
		if x.Key != "" {
			x.Key = fmt.Sprintf("k%d", key)
		}
		if x.Val != "" {
			x.Val = fmt.Sprintf("v%d", val)
		}
		l = append(l, x)
	}
	return l
}

// plainTwins holds each event against each one ahead of it.
func plainTwins(h []api.Event, tag func(mark byte, text string) string) (string, string, bool) {
	for i := range h {
		for j := range i {
			if hasTexts(h[i]) && hasTexts(h[j]) && h[i].Key != h[j].Key && tag(5, h[i].Key) == tag(5, h[j].Key) {
				return "\x05" + h[j].Key, "\x05" + h[i].Key, true
			}
		}
	}
	for i := range h {
		for j := range i {
			a, b := h[j].Val, h[i].Val
			if a != "" && b != "" && a != b && tag(6, a) == tag(6, b) {
				return "\x06" + a, "\x06" + b, true
			}
		}
	}
	return "", "", false
}

// someHistory has events that may be, of some few names, so that most of them are there more than once.
func someHistory(r *rand.Rand, many, names int) []api.Event {
	h := make([]api.Event, many)
	name := func() string { return fmt.Sprintf("%0*d", 1+r.Intn(2), r.Intn(names)) }
	for i := range h {
		h[i] = api.Event{Kind: 1 + r.Intn(5), Txn: 1 + r.Intn(32)}
		if hasTexts(h[i]) {
			h[i].Key, h[i].Val = name(), name()
			if h[i].Kind == api.ERead && r.Intn(3) == 0 {
				h[i].Val = ""
			}
		}
	}
	return h
}

// oddHistory has events of any kind, such as may not be too.
func oddHistory(r *rand.Rand, many, names int) []api.Event {
	h := make([]api.Event, many)
	name := func() string { return strings.Repeat("k", r.Intn(names)) + strings.Repeat("\x00", r.Intn(2)) }
	for i := range h {
		h[i] = api.Event{Kind: r.Intn(9) - 2, Txn: r.Intn(70) - 2, Key: name(), Val: name()}
	}
	return h
}

// P7.1: tags that were reckoned elsewhere: the byte 5 or 6 ahead of the text, by the seed.
func TestTagsReckonedElsewhere(t *testing.T) {
	for _, c := range []struct {
		seed string
		mark byte
		text string
		want string
	}{
		{"s", 5, "a", "59261878bccf1ff9ce7813ec7474f1d8946b11586284320d8317a43ad2f9b2a0"},
		{"s", 6, "a", "f7fc8c558f365656067228b462721c1f36eff573598df1a932f1f1a3871075b3"},
		{"s", 5, "", "c18dbf54c7cf355dc595ee278d6ed62a8fa0d62e706a71e980a59d8943da7d39"},
		{"s", 6, "x", "19deb23f93baa712715d7cea1f9c1d2fdeb0b9e661f431001ba5b309502a6cac"},
		{"\x00", 5, "a", "77a196af44eb702f460deeee16e3da274c7d974dce2f30096deb7b5b587f97f2"},
		{filler(32), 5, "a", "9b9022f343ce2b923e27f03b4d82a33e9f77623d84d4d90f845d8db980f19b6d"},
		{filler(32), 6, filler(32), "b01117b4a112358d4ae9fcd306af14f341080a533b6401f77fa21f5a5aec85e1"},
		{filler(31), 5, filler(32), "9aad93b60c2bd56e58038b039362d9450b479cbd9bd741532b01438a66235e31"},
		{"s", 5, "\x05a", "b7e713f4c011c2464a6385a62bbe1d1512bbfa09d79db9084996a28a4ffed824"},
		{"s", 6, filler(63), "8b0fb5f681a3eb5e4f8ed278ff56f705c7405de89ea2502723a4cb8b755161ec"},
		{"s", 5, filler(63), "681a080159bd799454de77fb54a4bcf94f3e095f9125ea775417cedbaffa1618"},
		{"s", 6, filler(64), "201a27a029008951203a1ec399f4cd5c82e87061c15f00b1c8908647fb0eae7c"},
		{"s", 5, filler(64), "79337896a9ffa7b2214047817baac262c7ab39245740f213747e5dbae8cceaa4"},
		{"s", 5, filler(65536), "2f8ed27200d8d86e299d9ea95054852d0db71cb24e011daf962833be6765952c"},
		{"s", 6, filler(65536), "5ce25457bb01ff47e218e87820ddbfc3d88dff6bcb23b535c244aa5bf4b8c53f"},
		{"\xff\x00", 6, "\x00", "e6a87546bcf0968e46ef96ec8ade1506fb5d737b02483cf89ef243a5a4a69dc1"},
	} {
		call := KeyTag
		if c.mark == 6 {
			call = ValTag
		}
		if s, e := call(c.seed, c.text); fmt.Sprintf("%x", s) != c.want || e != api.OK {
			t.Errorf("tag of %d and %.80x by %x: %x, %d, want %s", c.mark, c.text, c.seed, s, e, c.want)
		}
	}
}

// P7.1: seeds of each length, and texts at the edges of theirs.
func TestTagsByLengths(t *testing.T) {
	for n := 1; n <= 32; n++ {
		for _, many := range edgeLengths[:12] {
			seed, text := filler(n), filler(many)
			if s, e := KeyTag(seed, text); s != plainTag(t, seed, 5, text) || e != api.OK {
				t.Errorf("KeyTag of %d by %d bytes: %x, %d", many, n, s, e)
			}
			want := ""
			if many > 0 {
				want = plainTag(t, seed, 6, text)
			}
			if s, e := ValTag(seed, text); s != want || e != api.OK {
				t.Errorf("ValTag of %d by %d bytes: %x, %d", many, n, s, e)
			}
		}
	}
}

// P7.1: a seed that may not be is refused, whatever the text is: an empty value too.
func TestTagsRefuse(t *testing.T) {
	for _, seed := range wrongSeeds() {
		for _, many := range edgeLengths {
			if s, e := KeyTag(seed, filler(many)); s != "" || e != api.ErrArg {
				t.Errorf("KeyTag of %d by %d bytes: %x, %d", many, len(seed), s, e)
			}
			if s, e := ValTag(seed, filler(many)); s != "" || e != api.ErrArg {
				t.Errorf("ValTag of %d by %d bytes: %x, %d", many, len(seed), s, e)
			}
		}
	}
}

// P7.1: One of each kind: only reads and writes have tags, an empty value stays, kind and transaction too.
func TestOne(t *testing.T) {
	texts := []string{"", "\x00", "\x05", "\x06", "a", "\x05a", filler(31), filler(32)}
	seen := 0
	for kind := api.EBegin; kind <= api.EAbort; kind++ {
		for _, txn := range []int{1, 2, 31, 32} {
			for _, key := range texts {
				for _, val := range texts {
					x := api.Event{Kind: kind, Txn: txn, Key: key, Val: val}
					if !event.May(x) {
						continue
					}
					for _, seed := range []string{"s", "\x00", filler(2), filler(31), filler(32)} {
						seen++
						if y, e := One(seed, x); y != plainAll(t, seed, []api.Event{x})[0] || e != api.OK {
							t.Errorf("One of %x by %x: %x, %d", x, seed, y, e)
						}
					}
				}
			}
		}
	}
	if seen < 2000 {
		t.Errorf("%d seen", seen)
	}
}

// P7.1: One of what may not be, of a seed that may not be, and of both; an event without texts needs a seed too.
func TestOneRefuses(t *testing.T) {
	refused := func(seed string, x api.Event) {
		t.Helper()
		if y, e := One(seed, x); y != (api.Event{}) || e != api.ErrArg {
			t.Errorf("One of %d, %d, %.80x, %.80x by %d bytes: %x, %d", x.Kind, x.Txn, x.Key, x.Val, len(seed), y, e)
		}
	}
	for _, x := range wrongEvents() {
		for _, seed := range append(wrongSeeds(), "s", filler(32)) {
			refused(seed, x)
		}
	}
	for _, seed := range wrongSeeds() {
		for _, x := range []api.Event{{Kind: api.EBegin, Txn: 1}, {Kind: api.ECommit, Txn: 1}, {Kind: api.EAbort, Txn: 1}, {Kind: api.ERead, Txn: 1, Key: "a"}, {Kind: api.ERead, Txn: 1, Key: "a", Val: "b"}, {Kind: api.EWrite, Txn: 1, Key: "a", Val: "b"}} {
			refused(seed, x)
		}
	}
}

// P7.1: All is each event's One, of as many as there may be.
func TestAll(t *testing.T) {
	r := rand.New(rand.NewSource(1))
	for many := range api.MaxEvents + 1 {
		h, seed := someHistory(r, many, 20), filler(1+many%32)
		l, e := All(seed, h)
		if !slices.Equal(l, plainAll(t, seed, h)) || e != api.OK {
			t.Errorf("All of %d by %x: %x, %d", many, seed, l, e)
		}
		for i := range l {
			if x, e := One(seed, h[i]); x != l[i] || e != api.OK {
				t.Errorf("One of %x by %x: %x, %d, not %x", h[i], seed, x, e, l[i])
			}
		}
	}
}

// P7.1: what All refuses: too many ahead of all else; then a wrong event at any place, or a wrong seed, which no event is there to refuse in an empty history.
func TestAllRefuses(t *testing.T) {
	r := rand.New(rand.NewSource(2))
	refused := func(what, seed string, h []api.Event, want api.Errno) {
		t.Helper()
		if l, e := All(seed, h); len(l) != 0 || e != want {
			t.Errorf("%s: %d, %d, want %d", what, len(l), e, want)
		}
	}
	for _, many := range []int{257, 258, 512, 4096, 65536 + 1} {
		h := someHistory(r, many, 20)
		refused("too many", "s", h, api.ErrBig)
		refused("too many, no seed", "", h, api.ErrBig)
		refused("too many, a long seed", filler(33), h, api.ErrBig)
		refused("too many that may not be", "s", make([]api.Event, many), api.ErrBig)
	}
	for _, many := range []int{1, 2, 9, 255, 256} {
		for _, wrong := range wrongEvents() {
			for _, at := range []int{0, many / 2, many - 1} {
				h := someHistory(r, many, 20)
				h[at] = wrong
				refused("one that may not be", "s", h, api.ErrArg)
			}
		}
		for _, seed := range wrongSeeds() {
			refused("a wrong seed", seed, someHistory(r, many, 20), api.ErrArg)
		}
	}
	for _, seed := range append(wrongSeeds(), "s") {
		refused("nothing", seed, nil, api.OK)
		refused("nothing", seed, []api.Event{}, api.OK)
	}
}

// P7.2: the chapter's example, and names that are written out: keys and values are named apart, and empty ones stay.
func TestShapeExamples(t *testing.T) {
	h := []api.Event{{Kind: api.EWrite, Txn: 1, Key: "a", Val: "x"}, {Kind: api.ERead, Txn: 2, Key: "a", Val: "x"}}
	want := []api.Event{{Kind: api.EWrite, Txn: 1, Key: "k0", Val: "v0"}, {Kind: api.ERead, Txn: 2, Key: "k0", Val: "v0"}}
	if l := Shape(h); !slices.Equal(l, want) {
		t.Errorf("the example: %x", l)
	}
	h = []api.Event{
		{Kind: api.EBegin, Txn: 4},
		{Kind: api.ERead, Txn: 4, Key: "b"},
		{Kind: api.EWrite, Txn: 4, Key: "a", Val: "b"},
		{Kind: api.EWrite, Txn: 4, Key: "b", Val: "a"},
		{Kind: api.ERead, Txn: 5, Key: "c", Val: "b"},
		{Kind: api.ERead, Txn: 5, Key: "a", Val: "k0"},
		{Kind: api.ERead, Txn: 5, Key: "k1", Val: "a"},
		{Kind: api.ECommit, Txn: 5},
		{Kind: api.ERead, Txn: 5, Key: "k1"},
	}
	want = []api.Event{
		{Kind: api.EBegin, Txn: 4},
		{Kind: api.ERead, Txn: 4, Key: "k1"},
		{Kind: api.EWrite, Txn: 4, Key: "k2", Val: "v2"},
		{Kind: api.EWrite, Txn: 4, Key: "k1", Val: "v3"},
		{Kind: api.ERead, Txn: 5, Key: "k4", Val: "v2"},
		{Kind: api.ERead, Txn: 5, Key: "k2", Val: "v5"},
		{Kind: api.ERead, Txn: 5, Key: "k6", Val: "v3"},
		{Kind: api.ECommit, Txn: 5},
		{Kind: api.ERead, Txn: 5, Key: "k6"},
	}
	if l := Shape(h); !slices.Equal(l, want) {
		t.Errorf("names: %x", l)
	}
	if len(Shape(nil)) != 0 || len(Shape([]api.Event{})) != 0 {
		t.Error("nothing has a shape")
	}
}

// P7.2: events that may not be have a shape too: whatever the kind is, what is there is named, however long it is.
func TestShapeOfAnyEvents(t *testing.T) {
	h := append(wrongEvents(), wrongEvents()...)
	if l := Shape(h); !slices.Equal(l, plainShape(h)) {
		t.Errorf("%x", l)
	}
	r := rand.New(rand.NewSource(3))
	for range 1000 {
		h := oddHistory(r, r.Intn(40), 1+r.Intn(12))
		if l := Shape(h); !slices.Equal(l, plainShape(h)) {
			t.Errorf("Shape of %x: %x", h, l)
		}
	}
}

// P7.2: numbers of one, two and three figures, without noughts ahead; above a history's bound they go on.
func TestShapeFigures(t *testing.T) {
	for _, many := range []int{api.MaxEvents, api.MaxEvents + 1, 1001, 4000} {
		h := make([]api.Event, many)
		for i := range h {
			h[i] = api.Event{Kind: api.EWrite, Txn: 1, Key: fmt.Sprintf("%x", i), Val: fmt.Sprintf("%b", i)}
		}
		l := Shape(append(slices.Clone(h), h...))
		if len(l) != 2*many {
			t.Fatalf("%d of %d", len(l), 2*many)
		}
		for i, x := range l {
			want := api.Event{Kind: api.EWrite, Txn: 1, Key: fmt.Sprintf("k%d", i%many), Val: fmt.Sprintf("v%d", i%many)}
			if x != want {
				t.Errorf("%d of %d: %x, want %x", i, many, x, want)
			}
		}
	}
}

// P7.2: no two unlike texts of one true tag are known: so there are no twins, and none of what One refuses.
func TestTwinsOfTrueTags(t *testing.T) {
	r := rand.New(rand.NewSource(4))
	none := func(what, seed string, h []api.Event) {
		t.Helper()
		if a, b, is := Twins(seed, h); a != "" || b != "" || is {
			t.Errorf("%s: %x, %x, %t", what, a, b, is)
		}
	}
	for many := range 40 {
		h := someHistory(r, many, 1+r.Intn(30))
		none("a history", "s", h)
		none("a long seed", filler(32), h)
		for _, seed := range wrongSeeds() {
			none("a wrong seed", seed, h)
		}
		for _, wrong := range wrongEvents() {
			none("one that may not be, at the end", "s", append(slices.Clone(h), wrong))
			none("one that may not be, ahead", "s", append([]api.Event{wrong}, h...))
		}
	}
	none("more than a history has", "s", someHistory(r, 2000, 50))
	none("a key that is a value", "s", []api.Event{{Kind: api.EWrite, Txn: 1, Key: "a", Val: "a"}, {Kind: api.EWrite, Txn: 1, Key: "b", Val: "b"}})
}

// weak makes tags of which there are only some few.
func weak(many int) func(mark byte, text string) string {
	return func(mark byte, text string) string {
		n := int(mark)
		for i := range len(text) {
			n = n*31 + int(text[i])
		}
		return strings.Repeat(string([]byte{byte(n % many)}), 32)
	}
}

// P7.2: which twins are told, by tags that are written out.
func TestTwinsByHand(t *testing.T) {
	w := func(key, val string) api.Event { return api.Event{Kind: api.EWrite, Txn: 1, Key: key, Val: val} }
	rd := func(key, val string) api.Event { return api.Event{Kind: api.ERead, Txn: 1, Key: key, Val: val} }
	begin := api.Event{Kind: api.EBegin, Txn: 1}
	for _, c := range []struct {
		what      string
		h, tagged []api.Event
		a, b      string
		is        bool
	}{
		{"nothing", nil, nil, "", "", false},
		{"begins alone", []api.Event{begin, begin}, []api.Event{begin, begin}, "", "", false},
		{"one key of one tag", []api.Event{w("a", "x"), w("a", "y")}, []api.Event{w("1", "2"), w("1", "3")}, "", "", false},
		{"two keys of one tag", []api.Event{w("a", "x"), w("b", "y")}, []api.Event{w("1", "2"), w("1", "3")}, "\x05a", "\x05b", true},
		{"two values of one tag", []api.Event{w("a", "x"), w("b", "y")}, []api.Event{w("1", "3"), w("2", "3")}, "\x06x", "\x06y", true},
		{"both: keys ahead of values", []api.Event{w("a", "x"), w("b", "y"), w("c", "z")}, []api.Event{w("1", "3"), w("2", "3"), w("2", "4")}, "\x05b", "\x05c", true},
		{"keys and values of one tag are none", []api.Event{w("a", "x"), w("b", "y")}, []api.Event{w("1", "2"), w("2", "1")}, "", "", false},
		{"a key and a value of one tag are none", []api.Event{w("a", "x")}, []api.Event{w("1", "1")}, "", "", false},
		{"the first behind, not the first ahead", []api.Event{w("a", "x"), w("b", "x"), w("c", "x"), w("d", "x")}, []api.Event{w("1", "9"), w("2", "9"), w("2", "9"), w("1", "9")}, "\x05b", "\x05c", true},
		{"three of one tag", []api.Event{w("a", "x"), begin, w("b", "x"), w("c", "x")}, []api.Event{w("1", "9"), begin, w("1", "9"), w("1", "9")}, "\x05a", "\x05b", true},
		{"one key twice, then its twin", []api.Event{w("a", "x"), w("a", "x"), w("b", "x")}, []api.Event{w("1", "9"), w("1", "9"), w("1", "9")}, "\x05a", "\x05b", true},
		{"empty values are none", []api.Event{rd("a", ""), rd("b", ""), rd("b", "x")}, []api.Event{rd("1", ""), rd("2", ""), rd("2", "9")}, "", "", false},
		{"values behind empty ones", []api.Event{rd("a", ""), rd("b", "x"), rd("c", ""), rd("b", "y")}, []api.Event{rd("1", ""), rd("2", "9"), rd("3", ""), rd("2", "9")}, "\x06x", "\x06y", true},
		{"a key of a mark", []api.Event{w("\x05", "x"), w("\x06", "x")}, []api.Event{w("1", "9"), w("1", "9")}, "\x05\x05", "\x05\x06", true},
	} {
		if a, b, is := twins(c.h, c.tagged); a != c.a || b != c.b || is != c.is {
			t.Errorf("%s: %x, %x, %t", c.what, a, b, is)
		}
	}
}

// P7.2, P7.3: by weak tags the twins are those of the document's words; what has tags has the shape of what it was where there are none, and there alone.
func TestTwinsByWords(t *testing.T) {
	r := rand.New(rand.NewSource(5))
	keys, vals, none := 0, 0, 0
	for range 6000 {
		h, tag := someHistory(r, r.Intn(30), 1+r.Intn(12)), weak(1+r.Intn(40))
		l := tagged(h, tag)
		wantA, wantB, want := plainTwins(h, tag)
		a, b, is := twins(h, l)
		if a != wantA || b != wantB || is != want {
			t.Errorf("twins of %x: %x, %x, %t, want %x, %x, %t", h, a, b, is, wantA, wantB, want)
		}
		if slices.Equal(Shape(l), Shape(h)) == is {
			t.Errorf("%x, with tags %x: twins %t", h, l, is)
		}
		switch {
		case !is:
			none++
		case a[0] == 5:
			keys++
		default:
			vals++
		}
	}
	if keys < 300 || vals < 300 || none < 300 {
		t.Errorf("%d of keys, %d of values, %d none", keys, vals, none)
	}
}

// P7.3: what All makes has the shape of what it was, by whatever seed.
func TestShapeStays(t *testing.T) {
	r := rand.New(rand.NewSource(6))
	for range 300 {
		h, seed := someHistory(r, r.Intn(80), 1+r.Intn(30)), filler(1+r.Intn(32))
		l, e := All(seed, h)
		if e != api.OK || !slices.Equal(Shape(l), Shape(h)) {
			t.Errorf("%x by %x: %x, %d", h, seed, l, e)
		}
	}
}

// renamed gives each key and each value another name, unlike ones unlike ones.
func renamed(r *rand.Rand, h []api.Event) []api.Event {
	keys, vals := map[string]string{"": ""}, map[string]string{"": ""}
	name := func(names map[string]string, text string) string {
		if _, there := names[text]; !there {
			names[text] = fmt.Sprintf("%d.%d", r.Intn(1000), len(names))
		}
		return names[text]
	}
	var l []api.Event
	for _, x := range h {
		x.Key, x.Val = name(keys, x.Key), name(vals, x.Val)
		l = append(l, x)
	}
	return l
}

// P7.3: other names change no shape; a name that is shared anew, or no longer, does, and so does all else.
func TestShapeOfOtherNames(t *testing.T) {
	r := rand.New(rand.NewSource(7))
	for range 500 {
		h := someHistory(r, 2+r.Intn(60), 1+r.Intn(20))
		if !slices.Equal(Shape(renamed(r, h)), Shape(h)) {
			t.Errorf("%x: another shape by other names", h)
		}
		if s := Shape(h); !slices.Equal(Shape(s), s) {
			t.Errorf("%x: the shape of a shape is another one", h)
		}
	}
	x := api.Event{Kind: api.ERead, Txn: 1, Key: "a", Val: "x"}
	for what, change := range map[string]func(*api.Event){
		"another key":         func(x *api.Event) { x.Key = "b" },
		"another value":       func(x *api.Event) { x.Val = "y" },
		"no value":            func(x *api.Event) { x.Val = "" },
		"no key":              func(x *api.Event) { x.Key = "" },
		"another kind":        func(x *api.Event) { x.Kind = api.EWrite },
		"another transaction": func(x *api.Event) { x.Txn = 2 },
	} {
		y := x
		change(&y)
		if slices.Equal(Shape([]api.Event{x, y}), Shape([]api.Event{x, x})) {
			t.Errorf("%s: one shape", what)
		}
	}
}

// R3, R4: what is handed in stays as it was, what comes out is new, and no call remembers another one.
func TestNothingIsKept(t *testing.T) {
	h := someHistory(rand.New(rand.NewSource(8)), 60, 15)
	before := slices.Clone(h)
	for _, call := range []func([]api.Event) []api.Event{
		func(h []api.Event) []api.Event { l, _ := All("s", h); return l },
		Shape,
	} {
		first := call(h)
		kept := slices.Clone(first)
		call(renamed(rand.New(rand.NewSource(9)), h)[7:])
		for i := range first {
			first[i] = api.Event{Kind: -9, Key: "z"}
		}
		if !slices.Equal(h, before) || !slices.Equal(call(h), kept) {
			t.Error("a call hangs on another one, or on what was written into its answer")
		}
	}
	Twins("s", h)
	if !slices.Equal(h, before) {
		t.Error("Twins writes into the history")
	}
}
