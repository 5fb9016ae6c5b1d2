package cert

import (
	"fmt"
	"math"
	"math/rand"
	"slices"
	"strings"
	"testing"

	"cartouche/api"
)

// whole is a certificate that has something in each of its fields.
func whole() api.Cert {
	return api.Cert{
		Tenant: "tenant", Seq: 300, Prev: filler(32), Root: strings.Repeat("r", 32), Count: 200,
		V: api.Verdict{
			Level: api.Snapshot, Accept: true, Order: []int{3, 1, 3}, Bad: api.Bad{Kind: api.BMiddle, I: 7, J: 255},
			Ring: []api.Edge{edge(api.GOver, 1, 32, 8, 9), edge(api.GWrite, 2, 2, 0, 0)},
		},
		Proofs: []api.Proof{
			{I: 250, Event: write(4, "k", "v"), Path: []string{strings.Repeat("p", 32), filler(32)}},
			{I: 251, Event: begin(5)},
			{I: 0, Event: read(32, filler(32), ""), Path: []string{strings.Repeat("q", 32)}},
		},
	}
}

// sums are so many.
func sums(many int) []string {
	l := make([]string, many)
	for i := range l {
		l[i] = fmt.Sprintf("%032d", i)
	}
	return l
}

// greatest has as much of everything as may be.
func greatest() api.Cert {
	c := api.Cert{Tenant: filler(16), Seq: api.MaxSeq, Prev: filler(32), Root: filler(32), Count: api.MaxEvents}
	c.V = api.Verdict{Level: api.Snapshot, Accept: true, Bad: api.Bad{Kind: api.BLater, I: 255, J: 255}}
	for range 32 {
		c.V.Order = append(c.V.Order, 32)
	}
	for range 128 {
		c.V.Ring = append(c.V.Ring, edge(api.GOver, 32, 32, 255, 255))
	}
	for range 256 {
		c.Proofs = append(c.Proofs, api.Proof{I: 255, Event: write(32, filler(32), filler(32)), Path: sums(12)})
	}
	return c
}

// numbers are the fields that are numbers, each with the least and the greatest one that may be.
var numbers = []struct {
	what        string
	of          func(c *api.Cert) *int
	least, most int
}{
	{"Seq", func(c *api.Cert) *int { return &c.Seq }, 1, 1 << 20},
	{"Count", func(c *api.Cert) *int { return &c.Count }, 0, 256},
	{"Level", func(c *api.Cert) *int { return &c.V.Level }, 1, 2},
	{"the first of Order", func(c *api.Cert) *int { return &c.V.Order[0] }, 1, 32},
	{"the last of Order", func(c *api.Cert) *int { return &c.V.Order[2] }, 1, 32},
	{"Bad's Kind", func(c *api.Cert) *int { return &c.V.Bad.Kind }, 0, 4},
	{"Bad's I", func(c *api.Cert) *int { return &c.V.Bad.I }, 0, 255},
	{"Bad's J", func(c *api.Cert) *int { return &c.V.Bad.J }, 0, 255},
	{"the first edge's Kind", func(c *api.Cert) *int { return &c.V.Ring[0].Kind }, 1, 3},
	{"the last edge's Kind", func(c *api.Cert) *int { return &c.V.Ring[1].Kind }, 1, 3},
	{"the first edge's From", func(c *api.Cert) *int { return &c.V.Ring[0].From }, 1, 32},
	{"the last edge's From", func(c *api.Cert) *int { return &c.V.Ring[1].From }, 1, 32},
	{"the first edge's To", func(c *api.Cert) *int { return &c.V.Ring[0].To }, 1, 32},
	{"the last edge's To", func(c *api.Cert) *int { return &c.V.Ring[1].To }, 1, 32},
	{"the first edge's I", func(c *api.Cert) *int { return &c.V.Ring[0].I }, 0, 255},
	{"the last edge's I", func(c *api.Cert) *int { return &c.V.Ring[1].I }, 0, 255},
	{"the first edge's J", func(c *api.Cert) *int { return &c.V.Ring[0].J }, 0, 255},
	{"the last edge's J", func(c *api.Cert) *int { return &c.V.Ring[1].J }, 0, 255},
	{"the first proof's I", func(c *api.Cert) *int { return &c.Proofs[0].I }, 0, 255},
	{"the last proof's I", func(c *api.Cert) *int { return &c.Proofs[2].I }, 0, 255},
}

// texts are the fields that are texts, each with whether it may have so many bytes.
var texts = []struct {
	what string
	of   func(c *api.Cert) *string
	may  func(many int) bool
}{
	{"Tenant", func(c *api.Cert) *string { return &c.Tenant }, func(many int) bool { return 1 <= many && many <= 16 }},
	{"Prev", func(c *api.Cert) *string { return &c.Prev }, func(many int) bool { return many == 0 || many == 32 }},
	{"Root", func(c *api.Cert) *string { return &c.Root }, func(many int) bool { return many == 32 }},
	{"the first path's first", func(c *api.Cert) *string { return &c.Proofs[0].Path[0] }, func(many int) bool { return many == 32 }},
	{"the last path's last", func(c *api.Cert) *string { return &c.Proofs[2].Path[0] }, func(many int) bool { return many == 32 }},
	{"a read's Key", func(c *api.Cert) *string { return &c.Proofs[2].Event.Key }, func(many int) bool { return 1 <= many && many <= 32 }},
	{"a read's Val", func(c *api.Cert) *string { return &c.Proofs[2].Event.Val }, func(many int) bool { return many <= 32 }},
	{"a write's Val", func(c *api.Cert) *string { return &c.Proofs[0].Event.Val }, func(many int) bool { return 1 <= many && many <= 32 }},
}

// wantMay holds May, Bytes, and Take of its bytes, whether it has a form or not.
func wantMay(t *testing.T, what string, c api.Cert, want bool) {
	t.Helper()
	if May(c) != want || plainMay(c) != want {
		t.Errorf("%s: May is %t", what, !want)
	}
	s, e := Bytes(c)
	if want && (s != plainBytes(c) || e != api.OK) {
		t.Errorf("%s, Bytes: %.200x, %d", what, s, e)
	}
	if !want && (s != "" || e != api.ErrArg) {
		t.Errorf("%s, Bytes of what may not be: %.200x, %d", what, s, e)
	}
	taken, e := Take(plainBytes(c))
	if want && (e != api.OK || plainBytes(taken) != plainBytes(c) || !Same(taken, c)) {
		t.Errorf("%s, Take: %.200q, %d", what, plainBytes(taken), e)
	}
	if !want {
		wantRefused(t, what+", Take of what may not be", taken, e, api.ErrForm)
	}
}

// P14.3: each number at its bounds and beyond, and such as look like one that may be in their lowest bytes.
func TestMayOfNumbers(t *testing.T) {
	wantMay(t, "whole", whole(), true)
	for _, f := range numbers {
		try := []int{math.MinInt, math.MinInt + 1, -1 << 32, -257, -256, -255, -2, -1, 0, 1, 2, 3, 4, 5, 31, 32, 33, 254, 255, 256, 257, 258, 1<<16 + 1, 1<<20 - 1, 1 << 20, 1<<20 + 1, 1<<32 + 1, math.MaxInt}
		for _, n := range append(try, f.least-1, f.least, f.most-1, f.most, f.most+1) {
			c := whole()
			*f.of(&c) = n
			wantMay(t, fmt.Sprint(f.what, " is ", n), c, f.least <= n && n <= f.most)
		}
	}
	c := whole()
	c.V.Accept = false
	wantMay(t, "not accepted", c, true)
}

// P14.3: each text at its bounds and beyond.
func TestMayOfTexts(t *testing.T) {
	for _, f := range texts {
		for _, many := range []int{0, 1, 2, 15, 16, 17, 31, 32, 33, 34, 64, 250, 251, 256, 288, 512, 65535} {
			c := whole()
			*f.of(&c) = filler(many)
			wantMay(t, fmt.Sprint(f.what, " of ", many, " bytes"), c, f.may(many))
		}
	}
}

// P14.3: how much there may be of everything.
func TestMayOfLists(t *testing.T) {
	wantMay(t, "the greatest", greatest(), true)
	wantMay(t, "the least", api.Cert{Tenant: "\x00", Seq: 1, Root: filler(32), V: api.Verdict{Level: api.Serial}}, true)
	for what, change := range map[string]func(c *api.Cert){
		"one number more":                func(c *api.Cert) { c.V.Order = append(c.V.Order, 1) },
		"one edge more":                  func(c *api.Cert) { c.V.Ring = append(c.V.Ring, edge(1, 1, 1, 1, 1)) },
		"one proof more":                 func(c *api.Cert) { c.Proofs = append(c.Proofs, api.Proof{Event: begin(1)}) },
		"one sum more":                   func(c *api.Cert) { c.Proofs[0].Path = sums(13) },
		"one sum more of the last proof": func(c *api.Cert) { c.Proofs[255].Path = sums(13) },
		"many numbers":                   func(c *api.Cert) { c.V.Order = make([]int, 32+256) },
		"many edges":                     func(c *api.Cert) { c.V.Ring = make([]api.Edge, 128+256) },
		"many proofs":                    func(c *api.Cert) { c.Proofs = make([]api.Proof, 256+256) },
		"many sums":                      func(c *api.Cert) { c.Proofs[0].Path = sums(256 + 12) },
	} {
		c := greatest()
		change(&c)
		wantMay(t, what, c, false)
	}
	for what, change := range map[string]func(c *api.Cert){
		"no number": func(c *api.Cert) { c.V.Order = nil },
		"no edge":   func(c *api.Cert) { c.V.Ring = nil },
		"no proof":  func(c *api.Cert) { c.Proofs = nil },
		"no sum":    func(c *api.Cert) { c.Proofs[0].Path = nil },
		"no list":   func(c *api.Cert) { c.V.Order, c.V.Ring, c.Proofs = []int{}, []api.Edge{}, []api.Proof{} },
		"one each":  func(c *api.Cert) { c.V.Order, c.V.Ring, c.Proofs = c.V.Order[:1], c.V.Ring[:1], c.Proofs[:1] },
		"no Prev":   func(c *api.Cert) { c.Prev = "" },
	} {
		c := whole()
		change(&c)
		wantMay(t, what, c, true)
	}
}

// P14.3: the events of proofs are such that may be.
func TestMayOfEvents(t *testing.T) {
	for _, c := range []struct {
		x    api.Event
		want bool
	}{
		{begin(1), true}, {commit(32), true}, {abort(1), true}, {read(1, "a", ""), true}, {read(32, filler(32), filler(32)), true}, {write(1, "a", "x"), true}, {write(32, filler(32), filler(32)), true},
		{api.Event{}, false}, {begin(0), false}, {begin(33), false}, {begin(255), false}, {api.Event{Kind: 6, Txn: 1}, false}, {api.Event{Kind: 0, Txn: 1}, false}, {api.Event{Kind: 255, Txn: 1}, false},
		{read(1, "", ""), false}, {read(0, "a", ""), false}, {read(1, filler(33), ""), false}, {write(1, "a", ""), false}, {write(1, "", "x"), false}, {write(33, "a", "x"), false}, {write(1, "a", filler(33)), false},
	} {
		for n := range 3 {
			cert := whole()
			cert.Proofs[n].Event = c.x
			wantMay(t, fmt.Sprintf("the event %v", c.x), cert, c.want)
		}
	}
	// Of these the bytes would be another event's: so only May and Bytes are asked.
	for _, x := range []api.Event{{Kind: 1, Txn: 257}, {Kind: 257, Txn: 1}, {Kind: -255, Txn: 1}, {Kind: 1, Txn: math.MinInt + 1}, {Kind: 1, Txn: 1, Key: "a"}, {Kind: 4, Txn: 1, Val: "x"}} {
		c := whole()
		c.Proofs[1].Event = x
		if s, e := Bytes(c); May(c) || s != "" || e != api.ErrArg {
			t.Errorf("the event %v may be: %x, %d", x, s, e)
		}
	}
}

// P14.3: no beginning of a certificate's bytes is one, and nothing may stand behind them.
func TestTakeCutShort(t *testing.T) {
	least := api.Cert{Tenant: "t", Seq: 1, Root: filler(32), V: api.Verdict{Level: api.Serial}}
	for _, c := range []api.Cert{whole(), least} {
		s := plainBytes(c)
		for n := range len(s) {
			taken, e := Take(s[:n])
			wantRefused(t, fmt.Sprint("the first ", n, " bytes"), taken, e, api.ErrForm)
			if n > 0 {
				taken, e = Take(s[n:])
				wantRefused(t, fmt.Sprint("all but the first ", n, " bytes"), taken, e, api.ErrForm)
			}
		}
		for _, behind := range []string{"\x00", "0", "\x01", "\xff", s, filler(70000)} {
			taken, e := Take(s + behind)
			wantRefused(t, "with something behind", taken, e, api.ErrForm)
			taken, e = Take(behind + s)
			wantRefused(t, "with something ahead", taken, e, api.ErrForm)
		}
	}
}

// P14.3: each number and each text in a form that is none, or not its own.
func TestTakeOfOtherForms(t *testing.T) {
	c := whole()
	l := pieces(c)
	taken := func(i int, piece string) (api.Cert, api.Errno) {
		other := slices.Clone(l)
		other[i] = piece
		return Take(strings.Join(other, ""))
	}
	if same, e := taken(0, l[0]); e != api.OK || !Same(same, c) {
		t.Fatal(e)
	}
	for i, piece := range l {
		n := int(piece[0])
		bad := []string{"", "\xfc", "\xff", string([]byte{251, 0, byte(n)}) + piece[1:]}
		if i > 0 { // but for the tenant's name all texts begin with a byte that begins no number
			bad = append(bad, "\x09"+filler(9))
		}
		if i > 0 && n < 8 {
			bad = append(bad, string([]byte{byte(n + 1), 0})+piece[1:], "\x08"+strings.Repeat("\x00", 7-n)+piece)
			bad = append(bad, "\x08\x80"+strings.Repeat("\x00", 7), "\x08"+strings.Repeat("\xff", 8), "\x05\x01\x00\x00\x00\x00", "\x04\xff\xff\xff\xff")
		}
		for _, other := range bad {
			made, e := taken(i, other)
			wantRefused(t, fmt.Sprintf("the piece %d, %.40x, as %.40x", i, piece, other), made, e, api.ErrForm)
		}
	}
	const accept = 6
	for n := 2; n < 300; n++ {
		made, e := taken(accept, plainNum(uint64(n)))
		wantRefused(t, fmt.Sprint("accepted by ", n), made, e, api.ErrForm)
	}
	made, e := taken(accept, "\x00")
	c.V.Accept = false
	if e != api.OK || !Same(made, c) {
		t.Errorf("not accepted: %#v, %d", made, e)
	}
}

// faithful: what is taken may be, and has just these bytes; what isn't, is nothing.
func faithful(t *testing.T, s string) bool {
	t.Helper()
	c, e := Take(s)
	if e != api.OK {
		wantRefused(t, fmt.Sprintf("of %x", s), c, e, api.ErrForm)
		return false
	}
	if !plainMay(c) || plainBytes(c) != s {
		t.Fatalf("of %x: %#v", s, c)
	}
	return true
}

// P14.3, P14.4: with any one byte changed, left out or put in it is no certificate's, or just the bytes of what is taken.
func TestTakeOfAnotherByte(t *testing.T) {
	s, taken, refused := plainBytes(whole()), 0, 0
	hold := func(s string) {
		if faithful(t, s) {
			taken++
		} else {
			refused++
		}
	}
	for i := range len(s) {
		hold(s[:i] + s[i+1:])
		for b := range 256 {
			if byte(b) != s[i] {
				hold(s[:i] + string([]byte{byte(b)}) + s[i+1:])
			}
			if b < 4 {
				hold(s[:i] + string([]byte{byte(b)}) + s[i:])
			}
		}
	}
	if taken < 10000 || refused < 10000 {
		t.Errorf("too seldom: %d, %d", taken, refused)
	}
}

// P14.4: what was written is taken as it was, whatever may be; unlike ones have unlike bytes.
func TestTakenIsWritten(t *testing.T) {
	r := rand.New(rand.NewSource(5))
	seen := map[string]api.Cert{}
	for range 1500 {
		c := someCert(r)
		s, e := Bytes(c)
		if e != api.OK || s != plainBytes(c) {
			t.Fatalf("%#v, Bytes: %x, %d", c, s, e)
		}
		taken, e := Take(s)
		if e != api.OK || !Same(taken, c) || plainBytes(taken) != s {
			t.Fatalf("%#v, Take: %#v, %d", c, taken, e)
		}
		if other, there := seen[s]; there && !Same(other, c) {
			t.Fatalf("%#v and %#v: one text", other, c)
		}
		seen[s] = c
		if len(s) > 2000 {
			continue
		}
		for range 20 {
			b := []byte(s)
			for range 1 + r.Intn(3) {
				b[r.Intn(len(b))] = byte(r.Intn(256) >> r.Intn(8))
			}
			faithful(t, string(b))
		}
	}
}

// P14.3, R1: bytes that tell of very much, and texts that are none.
func TestTakeOfNothing(t *testing.T) {
	for _, s := range []string{"", "\x00", "\x01", "\xff", strings.Repeat("\x00", 1<<20), strings.Repeat("\x01", 1<<20), strings.Repeat("\xfb", 1<<20), strings.Repeat("\xff", 1<<20), filler(1 << 20)} {
		c, e := Take(s)
		wantRefused(t, "nothing", c, e, api.ErrForm)
	}
}

// changes are such that make a certificate another one.
func changes() map[string]func(c *api.Cert) {
	l := map[string]func(c *api.Cert){
		"Accept":                  func(c *api.Cert) { c.V.Accept = !c.V.Accept },
		"Order longer":            func(c *api.Cert) { c.V.Order = append(c.V.Order, 3) },
		"Order shorter":           func(c *api.Cert) { c.V.Order = c.V.Order[:2] },
		"Order without its first": func(c *api.Cert) { c.V.Order = c.V.Order[1:] },
		"no Order":                func(c *api.Cert) { c.V.Order = nil },
		"Ring longer":             func(c *api.Cert) { c.V.Ring = append(c.V.Ring, c.V.Ring[1]) },
		"Ring shorter":            func(c *api.Cert) { c.V.Ring = c.V.Ring[:1] },
		"Ring turned":             func(c *api.Cert) { slices.Reverse(c.V.Ring) },
		"no Ring":                 func(c *api.Cert) { c.V.Ring = nil },
		"Proofs longer":           func(c *api.Cert) { c.Proofs = append(c.Proofs, c.Proofs[2]) },
		"Proofs shorter":          func(c *api.Cert) { c.Proofs = c.Proofs[:2] },
		"Proofs turned":           func(c *api.Cert) { slices.Reverse(c.Proofs) },
		"no Proofs":               func(c *api.Cert) { c.Proofs = nil },
		"a Path longer":           func(c *api.Cert) { c.Proofs[1].Path = []string{""} },
		"a Path shorter":          func(c *api.Cert) { c.Proofs[0].Path = c.Proofs[0].Path[:1] },
		"a Path turned":           func(c *api.Cert) { slices.Reverse(c.Proofs[0].Path) },
		"no Path":                 func(c *api.Cert) { c.Proofs[2].Path = nil },
		"the second of Order":     func(c *api.Cert) { c.V.Order[1] = 3 },
		"a read's Key":            func(c *api.Cert) { c.Proofs[2].Event.Key += "k" },
		"an event's Kind":         func(c *api.Cert) { c.Proofs[1].Event.Kind++ },
		"an event's Txn":          func(c *api.Cert) { c.Proofs[2].Event.Txn = -1 },
	}
	for _, f := range numbers {
		l["another "+f.what] = func(c *api.Cert) { *f.of(c)++ }
		l["far "+f.what] = func(c *api.Cert) { *f.of(c) += 1 << 32 }
	}
	for _, f := range texts {
		l["longer "+f.what] = func(c *api.Cert) { *f.of(c) += "\x00" }
		l["another "+f.what] = func(c *api.Cert) { *f.of(c) = "other" }
	}
	return l
}

// P14.3: the same are those of which all fields are, whether they may be or not.
func TestSame(t *testing.T) {
	all := changes()
	for what, change := range all {
		a, b := whole(), whole()
		change(&b)
		if Same(a, b) || Same(b, a) {
			t.Errorf("%s: the same", what)
		}
		if !Same(b, copied(b)) {
			t.Errorf("%s: not the same as itself", what)
		}
		for other, further := range all {
			c := whole()
			further(&c)
			if Same(b, c) != (fmt.Sprintf("%q", []any{b}) == fmt.Sprintf("%q", []any{c})) {
				t.Errorf("%s, and %s: %t", what, other, Same(b, c))
			}
		}
	}
	empty := api.Cert{V: api.Verdict{Order: []int{}, Ring: []api.Edge{}}, Proofs: []api.Proof{}}
	if !Same(api.Cert{}, empty) || !Same(empty, api.Cert{}) || !Same(whole(), whole()) || !Same(greatest(), greatest()) {
		t.Error("not the same")
	}
	a, b := api.Cert{Proofs: []api.Proof{{}}}, api.Cert{Proofs: []api.Proof{{Path: []string{}}}}
	if !Same(a, b) || Same(a, empty) {
		t.Error("a path without elements")
	}
}

// R3, R4: what is handed in stays as it was, what comes out is new, and no call remembers another one.
func TestBytesKeepNothing(t *testing.T) {
	c := whole()
	c.V.Order, c.V.Ring, c.Proofs = append(c.V.Order, 9)[:3], append(c.V.Ring, edge(9, 9, 9, 9, 9))[:2], append(c.Proofs, api.Proof{})[:3]
	s, _ := Bytes(c)
	first, _ := Take(s)
	May(c)
	Same(c, first)
	if plainBytes(c) != plainBytes(whole()) || c.V.Order[:4][3] != 9 || c.V.Ring[:3][2].Kind != 9 {
		t.Error("a certificate, or what stands behind it, is written into")
	}
	for i := range first.Proofs {
		_ = append(first.Proofs[i].Path, "behind")
	}
	_, _, _ = append(first.V.Order, 9), append(first.V.Ring, edge(9, 9, 9, 9, 9)), append(first.Proofs, api.Proof{})
	if plainBytes(first) != s {
		t.Error("two lists of one certificate share what stands behind them")
	}
	first.V.Order[0], first.V.Ring[0].I, first.Proofs[0].I, first.Proofs[0].Path[0] = 9, 9, 9, "other"
	if again, e := Take(s); e != api.OK || plainBytes(again) != s {
		t.Errorf("a call hangs on what was written into its answer: %#v, %d", again, e)
	}
}
