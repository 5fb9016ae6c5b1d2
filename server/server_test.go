package server

import (
	"fmt"
	"math"
	"slices"
	"strings"
	"testing"

	"cartouche/api"
	"cartouche/cert"
	"cartouche/check"
	"cartouche/pass"
)

func shownRow(l []api.Event) string {
	s := ""
	for _, x := range l {
		s += fmt.Sprintf("(%d %d %q %q)", x.Kind, x.Txn, x.Key, x.Val)
	}
	return "[" + s + "]"
}

func shown(v api.Audit) string {
	s := fmt.Sprintf("at %d:", v.Now)
	for _, t := range v.T {
		hists := ""
		for _, h := range t.S.Hists {
			hists += shownRow(h)
		}
		s += fmt.Sprintf(" {%.20q %.40q %.40q: Safe %d, Wait %.60q, Room %d, Fuse %d, Off %t; Open %s; Hists %s; Certs %.20q; At %d, Left %d}",
			t.Name, t.Key, t.Seed, len(t.S.T.Safe), t.S.T.Wait, t.S.T.Room, t.S.T.Fuse, t.S.T.Off, shownRow(t.S.Open), hists, t.S.Certs, t.M.At, t.M.Left)
	}
	return s
}

func wantAudit(t *testing.T, what string, v, want api.Audit) {
	t.Helper()
	if !plainSame(v, want) {
		t.Errorf("%s: %s, want %s", what, shown(v), shown(want))
	}
}

func wantNew(t *testing.T, what string, l []api.Tenant, room int, want api.Errno) {
	t.Helper()
	v, e := New(l, room)
	server, err := plainNew(l, room)
	wantAudit(t, what, v, server)
	if e != want || err != want {
		t.Errorf("New %s: %d, want %d", what, e, want)
	}
}

func wantClaims(t *testing.T, what, s, name string, is bool) {
	t.Helper()
	if n, b := Claims(s); n != name || b != is {
		t.Errorf("Claims of %s: %q, %t, want %q, %t", what, n, b, name, is)
	}
}

// wantReply holds a request's reply, and what is changed by it.
func wantReply(t *testing.T, what string, v api.Audit, s string, want api.Audit, reply string) {
	t.Helper()
	w, r := Handle(v, s)
	if r != reply {
		t.Errorf("%s: replied %.80q, want %.80q", what, r, reply)
	}
	wantAudit(t, what, w, want)
}

// wantRefused holds that a request is replied that error, and changes nothing.
func wantRefused(t *testing.T, what string, v api.Audit, s string, e api.Errno) {
	t.Helper()
	wantReply(t, what, v, s, v, plainReply(e, v.Now, ""))
}

// wantPlain holds a request against the document's words: its error and its body.
func wantPlain(t *testing.T, what string, v api.Audit, s string) (api.Audit, api.Errno, string) {
	t.Helper()
	want, reply := plainHandle(v, s)
	wantReply(t, what, v, s, want, reply)
	e, rest, _ := cutNum(reply)
	_, rest, _ = cutNum(rest)
	return want, api.Errno(e), rest[bodyFrom(rest):]
}

// bodyFrom is where a text begins in its bytes.
func bodyFrom(s string) int {
	if s[0] == 251 {
		return 3
	}
	return 1
}

// wantDone holds a request of the first tenant, with a pass up to the greatest time, against the document's words and the error that it should tell.
func wantDone(t *testing.T, what string, v api.Audit, asked string, want api.Errno) (api.Audit, string) {
	t.Helper()
	v, e, body := wantPlain(t, what, v, of(v.T[0], asked))
	if e != want {
		t.Errorf("%s: error %d, want %d", what, e, want)
	}
	return v, body
}

// ab are two tenants.
func ab() []api.Tenant {
	return []api.Tenant{{Name: "a", Key: "k", Seed: "s"}, {Name: "b", Key: "l", Seed: "u"}}
}

func fresh(t *testing.T, room int, l ...api.Tenant) api.Audit {
	t.Helper()
	v, e := New(l, room)
	if e != api.OK {
		t.Fatalf("New: %d", e)
	}
	return v
}

// ticketOf is the text of a pass.
func ticketOf(key, name string, until uint64) string {
	p, _ := pass.Issue(key, name, until)
	return plainText(p)
}

// of is a request of a tenant, whose pass is good for ever.
func of(t api.Tenant, asked string) string {
	return ticketOf(t.Key, t.Name, math.MaxUint64) + asked
}

func put(x api.Event) string       { return "e" + plainEvent(x) }
func judged(n, level int) string   { return "j" + plainNum(uint64(n)) + plainNum(uint64(level)) }
func fetched(n int) string         { return "f" + plainNum(uint64(n)) }
func puts(h ...api.Event) []string { return mapped(h, put) }

func mapped[A, B any](l []A, to func(A) B) []B {
	var out []B
	for _, x := range l {
		out = append(out, to(x))
	}
	return out
}

// after is a server behind requests of the tenant at that place, each at a time of its own, and each OK.
func after(t *testing.T, v api.Audit, at int, asked ...string) api.Audit {
	t.Helper()
	for _, s := range asked {
		w, reply := plainHandle(plainTick(v), of(v.T[at], s))
		if reply != plainReply(api.OK, v.Now+1, reply[len(reply)-len(bodyOf(reply)):]) {
			t.Fatalf("%.40q of %s: %q", s, shown(v), reply)
		}
		v = w
	}
	return v
}

func bodyOf(reply string) string {
	_, rest, _ := cutNum(reply)
	_, rest, _ = cutNum(rest)
	return rest[bodyFrom(rest):]
}

// lost is a history of a lost update: not good at either level; skew one that is good as a snapshot alone; good one that is good.
func lost() []api.Event {
	return []api.Event{begin(1), begin(2), read(1, "a", ""), read(2, "a", ""), write(1, "a", "x"), write(2, "a", "y"), commit(1), commit(2)}
}

func skew() []api.Event {
	return []api.Event{begin(1), begin(2), read(1, "b", ""), read(2, "a", ""), write(1, "a", "x"), write(2, "b", "y"), commit(1), commit(2)}
}

func good() []api.Event {
	return []api.Event{begin(1), write(1, "x", "1"), commit(1)}
}

func dirty() []api.Event {
	return []api.Event{begin(1), begin(2), write(1, "a", "x"), read(2, "a", "x"), abort(1), commit(2)}
}

// sealed is a server of two tenants, of which the first has these histories sealed.
func sealed(t *testing.T, room int, l ...[]api.Event) api.Audit {
	t.Helper()
	v := fresh(t, room, ab()...)
	for _, h := range l {
		v = after(t, v, 0, append(puts(h...), "s")...)
	}
	return v
}

// P19.1: how many tenants there may be.
func TestNewOfSoMany(t *testing.T) {
	for many := range 7 {
		var l []api.Tenant
		for i := range many {
			l = append(l, api.Tenant{Name: fmt.Sprint("t", i), Key: "k", Seed: "s"})
		}
		want := api.OK
		if many > 4 {
			want = api.ErrArg
		}
		wantNew(t, fmt.Sprint(many, " tenants"), l, 9, want)
	}
	wantNew(t, "many tenants", make([]api.Tenant, 100000), 9, api.ErrArg)
}

// P19.1: how many bytes a name, a key and a seed may have, of each of the tenants.
func TestNewOfLengths(t *testing.T) {
	for many := range 70 {
		for at := range 4 {
			for field, most := range []int{16, 32, 32} {
				var l []api.Tenant
				for i := range 4 {
					l = append(l, api.Tenant{Name: fmt.Sprint("t", i), Key: "k", Seed: "s"})
				}
				*[]*string{&l[at].Name, &l[at].Key, &l[at].Seed}[field] = filler(many)
				want := api.ErrArg
				if 1 <= many && many <= most {
					want = api.OK
				}
				wantNew(t, fmt.Sprintf("tenant %d, field %d of %d bytes", at, field, many), l, 9, want)
			}
		}
	}
}

// P19.1: no two of one name; keys and seeds may be the same.
func TestNewOfNames(t *testing.T) {
	tenants := func(names ...string) []api.Tenant {
		return mapped(names, func(name string) api.Tenant { return api.Tenant{Name: name, Key: "k", Seed: "k"} })
	}
	for _, names := range [][]string{{"a", "a"}, {"a", "b", "a"}, {"a", "b", "b"}, {"a", "b", "c", "a"}, {"a", "b", "c", "b"}, {"a", "b", "c", "c"}, {"a", "a", "a", "a"}, {"\x00", "\x00"}, {filler(16), filler(16)}} {
		wantNew(t, "two of one name", tenants(names...), 9, api.ErrArg)
	}
	for _, names := range [][]string{{}, {"a"}, {"a", "A"}, {"a", "a\x00", "\x00a", "aa"}, {"\x00", "\xff"}} {
		wantNew(t, "all of other names", tenants(names...), 9, api.OK)
	}
}

// P19.1: the room of each of them; one that may not be, of whatever tenants, of none too.
func TestNewOfRoom(t *testing.T) {
	for _, l := range [][]api.Tenant{nil, ab()[:1], ab()} {
		for _, room := range []int{0, 1, 9, 100000, math.MaxInt} {
			wantNew(t, "room", l, room, api.OK)
		}
		for _, room := range []int{-1, -2, math.MinInt} {
			wantNew(t, "a room that may not be", l, room, api.ErrArg)
		}
	}
}

// P19.1: whatever a tenant that comes in has beside its name, its key and its seed, it has nothing of it then.
func TestNewOfOnesThatHaveSomething(t *testing.T) {
	l := ab()
	l[0].S = api.Store{T: api.Tape{Safe: "x", Wait: "y", Room: 7, Fuse: 3, Off: true}, Open: good(), Hists: [][]api.Event{good()}, Certs: []string{"c"}}
	l[0].M = api.Meter{At: 7, Left: 8}
	wantNew(t, "of one that has something", l, 50, api.OK)
	if len(l[0].S.Certs) != 1 || l[0].M.At != 7 {
		t.Error("what was handed in is written into")
	}
}

// P19.1: a server of the form that the document tells.
func TestNew(t *testing.T) {
	want := api.Audit{T: []api.Tenant{
		{Name: "a", Key: "k", Seed: "s", S: api.Store{T: api.Tape{Room: 77, Fuse: -1}}, M: api.Meter{At: 0, Left: 150}},
		{Name: "b", Key: "l", Seed: "u", S: api.Store{T: api.Tape{Room: 77, Fuse: -1}}, M: api.Meter{At: 0, Left: 150}},
	}}
	wantAudit(t, "New", fresh(t, 77, ab()...), want)
}

// P19.1: a request claims whom its pass tells, whatever stands behind it, and whether the pass fits or not.
func TestClaims(t *testing.T) {
	for _, name := range []string{"a", "\x00", filler(15), filler(16)} {
		for _, until := range []uint64{0, 1, 255, 256, math.MaxUint64} {
			s := ticketOf("key", name, until)
			forged := s[:len(s)-1] + "\x00"
			for _, behind := range []string{"", "h", "x", "\x00", s, filler(70000)} {
				wantClaims(t, "a pass with something behind", s+behind, name, true)
				wantClaims(t, "a forged one", forged+behind, name, true)
			}
			for n := range len(s) {
				wantClaims(t, fmt.Sprintf("%q", s[:n]), s[:n], "", false)
			}
			wantClaims(t, "a pass alone, without its length", s[1:], "", false)
		}
	}
}

// P19.1: what is no pass, or too long a text, or no text.
func TestClaimsOfNobody(t *testing.T) {
	seal := filler(32)
	for _, p := range []string{
		"", "\x00", "\x01a", "\x00\x00" + seal, "\x01a\x00" + seal[1:], "\x01a\x00" + seal + "x", "\x01a\x01\x00" + seal, "\x01a\x09123456789" + seal,
		"\x11" + filler(17) + "\x00" + seal, "\xfb\x00\x01a\x00" + seal, "a\x00" + seal, seal, filler(64), filler(65), filler(250), "\x01a\x00" + seal + filler(30), "\x01a\x00" + seal + filler(200),
	} {
		wantClaims(t, fmt.Sprintf("%q", p), plainText(p), "", false)
		wantClaims(t, fmt.Sprintf("%q with something behind", p), plainText(p)+"h", "", false)
	}
	p := "\x01a\x00" + seal
	wantClaims(t, "a pass", plainText(p), "a", true)
	for _, s := range []string{"", "\x00", "\xfb", "\xfb\x00", "\xfb\x00\x23" + p, "\xfc" + p, "\xff" + p, "\x22" + p, "\x24" + p, p, filler(1 << 16), strings.Repeat("\xff", 1<<16), strings.Repeat("\x00", 1<<16)} {
		wantClaims(t, fmt.Sprintf("%.40q", s), s, "", false)
	}
}

// P19.1: the same are those of which all fields are.
func TestSame(t *testing.T) {
	whole := func() api.Audit {
		v := sealed(t, 10000, good(), lost())
		v = after(t, v, 0, judged(1, 1), judged(0, 2), put(begin(7)))
		return after(t, v, 1, put(begin(9)))
	}
	changes := map[string]func(v *api.Audit){
		"Now":             func(v *api.Audit) { v.Now++ },
		"a tenant less":   func(v *api.Audit) { v.T = v.T[:1] },
		"no tenant":       func(v *api.Audit) { v.T = nil },
		"a tenant more":   func(v *api.Audit) { v.T = append(v.T, api.Tenant{}) },
		"tenants turned":  func(v *api.Audit) { slices.Reverse(v.T) },
		"Safe":            func(v *api.Audit) { v.T[0].S.T.Safe += "x" },
		"Wait":            func(v *api.Audit) { v.T[1].S.T.Wait = "" },
		"Room":            func(v *api.Audit) { v.T[1].S.T.Room++ },
		"Fuse":            func(v *api.Audit) { v.T[0].S.T.Fuse = 5 },
		"Off":             func(v *api.Audit) { v.T[1].S.T.Off = true },
		"no open history": func(v *api.Audit) { v.T[0].S.Open = nil },
		"an open event":   func(v *api.Audit) { v.T[1].S.Open = []api.Event{begin(8)} },
		"a history less":  func(v *api.Audit) { v.T[0].S.Hists = v.T[0].S.Hists[:1] },
		"a sealed event":  func(v *api.Audit) { v.T[0].S.Hists[1][0].Txn++ },
		"another body":    func(v *api.Audit) { v.T[0].S.Certs[1] += "x" },
		"a body less":     func(v *api.Audit) { v.T[0].S.Certs = v.T[0].S.Certs[:1] },
	}
	for i := range 2 {
		changes[fmt.Sprint("Name of ", i)] = func(v *api.Audit) { v.T[i].Name += "x" }
		changes[fmt.Sprint("Key of ", i)] = func(v *api.Audit) { v.T[i].Key += "x" }
		changes[fmt.Sprint("Seed of ", i)] = func(v *api.Audit) { v.T[i].Seed += "x" }
		changes[fmt.Sprint("At of ", i)] = func(v *api.Audit) { v.T[i].M.At++ }
		changes[fmt.Sprint("Left of ", i)] = func(v *api.Audit) { v.T[i].M.Left-- }
	}
	v := whole()
	if !Same(v, whole()) || !Same(api.Audit{}, api.Audit{T: []api.Tenant{}}) || Same(v, api.Audit{}) {
		t.Error("not the same")
	}
	for what, change := range changes {
		w := copied(v)
		change(&w)
		if Same(v, w) || Same(w, v) || !Same(w, copied(w)) {
			t.Errorf("%s: the same", what)
		}
	}
}

// P19.2: what claims nobody, even of a server that has nobody.
func TestHandleOfNobody(t *testing.T) {
	v := plainTick(sealed(t, 1000, good()))
	s := of(v.T[0], "h")
	for _, s := range []string{"", "h", "\x00", "\x00h", s[1:], s[:len(s)-2], "\xfb" + s, plainText(s), filler(100), filler(70000)} {
		wantRefused(t, fmt.Sprintf("%.60q", s), v, s, api.ErrForm)
		wantRefused(t, "of a server of none", api.Audit{Now: 7}, s, api.ErrForm)
	}
	wantReply(t, "nothing", v, "", v, "\x01\x03\x01\x05\x00")
}

// P19.2: a tenant that there isn't, whatever is asked for.
func TestHandleOfUnknown(t *testing.T) {
	v := plainTick(sealed(t, 1000, good()))
	for _, name := range []string{"c", "A", "aa", "a\x00", "\x00", filler(16)} {
		for _, asked := range []string{"", "h", "x", "hh", judged(0, 1)} {
			wantRefused(t, "of "+name, v, ticketOf("k", name, 99)+asked, api.ErrPass)
			wantRefused(t, "a late one of "+name, v, ticketOf("k", name, 0)+asked, api.ErrPass)
			wantRefused(t, "of a server of none", api.Audit{}, ticketOf("k", name, 99)+asked, api.ErrPass)
		}
	}
}

// P19.2: passes that don't fit, and such as are late; each is told ahead of what is wrong behind it.
func TestHandleOfPasses(t *testing.T) {
	v := sealed(t, 1000, good())
	for _, now := range []uint64{0, 1, 7, 255, 256, 1 << 40, math.MaxUint64 - 1, math.MaxUint64} {
		v.Now = now
		for _, asked := range []string{"", "h", "hh", "x", "s", judged(0, 1), put(begin(1))} {
			for _, until := range []uint64{0, 6, 7, 8, 256, now - 1, now, now + 1, math.MaxUint64} {
				good := ticketOf("k", "a", until)
				wantRefused(t, "another key", v, ticketOf("l", "a", until)+asked, api.ErrPass)
				wantRefused(t, "another tenant's", v, ticketOf("k", "b", until)+asked, api.ErrPass)
				wantRefused(t, "with another seal", v, good[:len(good)-1]+string([]byte{good[len(good)-1] ^ 1})+asked, api.ErrPass)
				if until < now {
					wantRefused(t, "a late one", v, good+asked, api.ErrLate)
				} else if asked == "h" {
					wantPlain(t, "one in time", v, good+asked)
				}
			}
		}
	}
}

// P19.2: what stands behind a pass that fits, and is no request: it is told ahead of what is left of the meter, and nothing is charged.
func TestHandleOfNoRequest(t *testing.T) {
	v := sealed(t, 1000, good())
	empty := copied(v)
	empty.T[0].M.Left = 0
	x := put(write(1, "a", "x"))
	for _, asked := range []string{
		"", "\x00", "x", "E", "H", "S", "a", "g", "i", "c", "\xe5",
		"h\x00", "hh", "h\x01\x01", "s\x00", "ss", "se", "s\x01\x01",
		"e", "e\x01", "e\x01\x00", "e\x01\x21", "e\x00\x01", "e\x06\x01", "e\x01\x01\x00", "e\x02\x01", "e\x02\x01\x00\x00", "e\x02\x01\x01a", "e\x03\x01\x01a\x00", x[:len(x)-1], x + "\x00", x + x, "e" + x, "e\x02\x01\x21" + filler(33) + "\x00",
		"f", "f\x01", "f\x01\x00", "f\x02\x00\x01", "f\x00\x00", "f\x01\x01\x00", "f\x01\x01h", "f\x01\x01\x01\x01", "f\x03\x10\x00\x01", "f\x03\xff\xff\xff", "f\x05\x01\x00\x00\x00\x00", "f\x08\x80\x00\x00\x00\x00\x00\x00\x00", "f\x08\xff\xff\xff\xff\xff\xff\xff\xff", "f\x09123456789",
		"j", "j\x00", "j\x01", "j\x01\x01", "j\x00\x01", "j\x00\x01\x01\x00", "j\x00\x01\x01\x01\x01", "j\x01\x00\x01\x01", "j\x00\x01\x00", "j\x00\x02\x00\x01", "j\x03\x10\x00\x01\x01\x01", "j\x00\x03\x10\x00\x01", "j\x08\xff\xff\xff\xff\xff\xff\xff\xff\x01\x01", "j\x00\x08\x80\x00\x00\x00\x00\x00\x00\x01", "j\x00\x05\x01\x00\x00\x00\x01",
		filler(70000), "h" + filler(70000),
	} {
		wantRefused(t, fmt.Sprintf("%.40q", asked), v, of(v.T[0], asked), api.ErrForm)
		wantRefused(t, fmt.Sprintf("%.40q, and nothing left", asked), empty, of(v.T[0], asked), api.ErrForm)
		late := ticketOf("k", "a", v.Now-1)
		wantRefused(t, "and a late pass", v, late+asked, api.ErrLate)
	}
}

// P19.2: numbers are at most 2^20, also such as stand for nothing that there is.
func TestHandleOfNumbers(t *testing.T) {
	v := sealed(t, 1000, good())
	for _, n := range []int{0, 1, 2, 3, 255, 256, 65535, 65536, 1<<20 - 1, 1 << 20} {
		wantDone(t, fmt.Sprint("f of ", n), v, fetched(n), api.ErrNone)
		if n > 0 {
			wantDone(t, fmt.Sprint("j of ", n), v, judged(n, 1), api.ErrNone)
		}
		if n != 1 && n != 2 {
			wantDone(t, fmt.Sprint("j at ", n), v, judged(0, n), api.ErrArg)
			wantDone(t, fmt.Sprint("j of none at ", n), v, judged(1, n), api.ErrNone)
		}
	}
}

// P19.2: what each kind costs, whether it comes to something or not, and that what isn't left isn't spent.
func TestCosts(t *testing.T) {
	v := after(t, sealed(t, 100000, good(), lost(), dirty()), 0, judged(0, 1), put(begin(1)))
	for asked, cost := range map[string]int{
		put(begin(9)): 1, put(write(2, filler(32), filler(32))): 1, "s": 5, "h": 1, fetched(1): 1, fetched(2): 1, fetched(0): 1, fetched(1 << 20): 1,
		judged(0, 1): 4, judged(0, 2): 4, judged(0, 0): 4, judged(0, 1<<20): 4, judged(1, 1): 9, judged(1, 3): 9, judged(2, 2): 7, judged(3, 1): 1, judged(3, 3): 1, judged(1<<20, 1): 1,
	} {
		for _, off := range []bool{false, true} {
			v.T[0].S.T.Off = off
			for left := range 12 {
				v.T[0].M = api.Meter{At: v.Now, Left: left}
				w, e, _ := wantPlain(t, asked, v, of(v.T[0], asked))
				if left < cost && (e != api.ErrQuota || w.T[0].M.Left != left) {
					t.Errorf("%q of %d: %d, %d left", asked, left, e, w.T[0].M.Left)
				}
				if left >= cost && (e == api.ErrQuota || w.T[0].M.Left != left-cost) {
					t.Errorf("%q of %d: %d, %d left", asked, left, e, w.T[0].M.Left)
				}
			}
		}
	}
}

// P19.2: a meter has all of it again at the next time, and at that time alone.
func TestMeterOfTimes(t *testing.T) {
	v := fresh(t, 100, ab()...)
	for range 3 {
		for range 150 {
			v, _ = wantDone(t, "h", v, "h", api.OK)
		}
		for range 3 {
			wantRefused(t, "one more", v, of(v.T[0], "h"), api.ErrQuota)
		}
		if v.T[1].M.Left != 150 {
			t.Error("the other one's work is spent")
		}
		v = Tick(v)
	}
	v.T[0].M = api.Meter{At: 9, Left: 0}
	for _, now := range []uint64{0, 8, 9} {
		v.Now = now
		wantRefused(t, "ahead of its time", v, of(v.T[0], "h"), api.ErrQuota)
	}
	v.Now = 10
	w, _ := wantDone(t, "behind it", v, "h", api.OK)
	if w.T[0].M != (api.Meter{At: 10, Left: 149}) {
		t.Error(shown(w))
	}
}

// P19.3: events are put behind the open history, sealed, and put again.
func TestPutAndSeal(t *testing.T) {
	v := fresh(t, 1000, ab()...)
	v, _ = wantDone(t, "nothing to seal", v, "s", api.ErrNone)
	want := copied(v)
	for i, x := range lost() {
		v, _ = wantDone(t, "put", v, put(x), api.OK)
		want.T[0].S.Open = lost()[:i+1]
		want.T[0].S.T.Wait += plainText(put(x))
		want.T[0].S.T.Room = 1000 - len(want.T[0].S.T.Wait)
		want.T[0].M.Left--
		wantAudit(t, "put", v, want)
	}
	v, _ = wantDone(t, "sealed", v, "s", api.OK)
	x := &want.T[0].S
	x.Hists, x.Open = [][]api.Event{lost()}, nil
	x.T = api.Tape{Safe: x.T.Wait + "\x01s", Room: x.T.Room - 2, Fuse: -1}
	want.T[0].M.Left -= 5
	wantAudit(t, "sealed", v, want)
	v, _ = wantDone(t, "nothing more to seal", v, "s", api.ErrNone)
	v, _ = wantDone(t, "put again", v, put(begin(1)), api.OK)
	if len(v.T[0].S.Hists) != 1 || len(v.T[0].S.Open) != 1 {
		t.Error(shown(v))
	}
}

// P19.3: of events 64, of histories 8, of certificates 16, of room no more than there is.
func TestAsMuchAsMayBe(t *testing.T) {
	v := fresh(t, 1<<20, ab()...)
	for range 8 {
		v = after(t, v, 0, slices.Repeat([]string{put(read(1, "a", ""))}, 64)...)
		v, _ = wantDone(t, "one event more", plainTick(v), put(commit(1)), api.ErrFull)
		v, _ = wantDone(t, "sealed", v, "s", api.OK)
	}
	v = after(t, v, 0, put(begin(1)))
	v, _ = wantDone(t, "one history more", v, "s", api.ErrFull)
	v.T[0].S.Hists[7] = good()
	for range 16 {
		v = after(t, v, 0, judged(7, 1))
	}
	v, _ = wantDone(t, "one certificate more", plainTick(v), judged(7, 1), api.ErrFull)
	v, _ = wantDone(t, "one that can't be", v, judged(7, 3), api.ErrArg)
	v, _ = wantDone(t, "of one that isn't well formed", v, judged(0, 1), api.ErrNone)
	v, _ = wantDone(t, "the last one", v, fetched(16), api.OK)
	v, _ = wantDone(t, "none", v, fetched(17), api.ErrNone)

	for room := range 6 {
		v := fresh(t, room, ab()...)
		for _, asked := range []string{put(begin(1)), "s"} {
			v, _, _ = wantPlain(t, fmt.Sprint("room ", room), v, of(v.T[0], asked))
		}
	}
}

// P19.3: certificates have the tenant's name, its seed's tags, their numbers from 1 on, the heads of those ahead, and the history's root.
func TestJudge(t *testing.T) {
	v := sealed(t, 100000, good(), lost(), skew(), dirty())
	var all []string
	for i, c := range []struct {
		h      []api.Event
		n      int
		level  int
		accept bool
	}{{good(), 0, 1, true}, {lost(), 1, 1, false}, {lost(), 1, 2, false}, {skew(), 2, 1, false}, {skew(), 2, 2, true}, {dirty(), 3, 1, false}, {dirty(), 3, 2, false}, {good(), 0, 1, true}} {
		want, e := cert.Make("a", i+1, plainHead(all), "s", c.h, c.level)
		if e != api.OK || want.V.Accept != c.accept || want.Seq != i+1 {
			t.Fatal(e, want)
		}
		body, _ := cert.Bytes(want)
		var got string
		v, got = wantDone(t, "j", plainTick(v), judged(c.n, c.level), api.OK)
		if got != body {
			t.Errorf("certificate %d of %d at %d: %.80q, want %.80q", i+1, c.n, c.level, got, body)
		}
		if e := check.Check(c.h, want.V); e != api.OK {
			t.Error(e)
		}
		all = append(all, body)
		if !slices.Equal(v.T[0].S.Certs, all) || len(v.T[1].S.Certs) != 0 {
			t.Error(shown(v))
		}
	}
	for i, body := range all {
		_, got := wantDone(t, "f", plainTick(v), fetched(i+1), api.OK)
		if got != body {
			t.Errorf("fetched %d: %.80q", i+1, got)
		}
	}
	wantDone(t, "none", plainTick(v), fetched(0), api.ErrNone)
	wantDone(t, "none", plainTick(v), fetched(len(all)+1), api.ErrNone)
}

// P19.3: the head of no certificate has no byte; else it has 32, and is another one behind each certificate.
func TestHead(t *testing.T) {
	v := sealed(t, 100000, good())
	heads := map[string]int{}
	for i := range 4 {
		_, head := wantDone(t, "h", plainTick(v), "h", api.OK)
		if head != plainHead(v.T[0].S.Certs) || len(head) != min(i, 1)*32 || heads[head] != 0 {
			t.Errorf("behind %d: %q", i, head)
		}
		heads[head]++
		if _, other, body := wantPlain(t, "h of b", plainTick(v), of(v.T[1], "h")); other != api.OK || body != "" {
			t.Errorf("b: %d, %q", other, body)
		}
		v = after(t, v, 0, judged(0, 1))
	}
}

// P19.3: what isn't well formed isn't judged: the error is told, and nothing but the meter is changed.
func TestJudgeOfBadForm(t *testing.T) {
	for want, h := range map[api.Errno][]api.Event{
		api.ErrThere: {begin(1), begin(1), commit(1)},
		api.ErrNone:  {read(1, "a", ""), commit(1)},
		api.ErrState: {begin(1), begin(2), commit(1)},
	} {
		v := plainTick(sealed(t, 1000, h))
		w, body := wantDone(t, "j", v, judged(0, 1), want)
		v.T[0].M = api.Meter{At: v.Now, Left: 150 - 1 - len(h)}
		wantAudit(t, "j", w, v)
		if body != "" {
			t.Errorf("%q", body)
		}
		wantDone(t, "at a wrong level", v, judged(0, 3), api.ErrArg)
	}
}

// P19.2, P19.3: where the power goes, at each byte of what is written: the error, no body, the tape alone and the meter are changed; what isn't written goes on.
func TestLossOfPower(t *testing.T) {
	v := after(t, sealed(t, 100000, good()), 0, judged(0, 1), put(begin(1)), put(begin(2)))
	for _, asked := range []string{put(commit(2)), "s", judged(0, 2)} {
		whole, _ := wantDone(t, "with power", v, asked, api.OK)
		many := v.T[0].S.T.Room - whole.T[0].S.T.Room
		for fuse := 0; fuse <= many+1; fuse++ {
			w := plainArm(v, "a", fuse)
			if fuse >= many {
				wantDone(t, "power enough", w, asked, api.OK)
				continue
			}
			gone, body := wantDone(t, "the power goes", w, asked, api.ErrDead)
			want := copied(w)
			want.T[0].S.T.Off, want.T[0].S.T.Fuse, want.T[0].S.T.Wait, want.T[0].S.T.Room = true, 0, gone.T[0].S.T.Wait, w.T[0].S.T.Room-fuse
			want.T[0].M = whole.T[0].M
			wantAudit(t, "the power goes", gone, want)
			if body != "" || len(gone.T[0].S.T.Wait) != len(v.T[0].S.T.Wait)+fuse {
				t.Errorf("fuse %d: %q, %q", fuse, body, gone.T[0].S.T.Wait)
			}
			for _, again := range []string{put(begin(3)), "s", judged(0, 1)} {
				wantDone(t, "behind it", plainTick(gone), again, api.ErrDead)
			}
			wantDone(t, "f behind it", plainTick(gone), fetched(1), api.OK)
			wantDone(t, "h behind it", plainTick(gone), "h", api.OK)
			if _, e, _ := wantPlain(t, "the other one", gone, of(v.T[1], put(begin(1)))); e != api.OK {
				t.Error(e)
			}
		}
	}
}

// P19.3: room for all but a byte of what is written: the error, no body, and but for the meter nothing is changed.
func TestNoRoom(t *testing.T) {
	v := after(t, sealed(t, 100000, good()), 0, judged(0, 1), put(begin(1)))
	for _, asked := range []string{put(commit(2)), "s", judged(0, 2)} {
		whole, _ := wantDone(t, "with room", v, asked, api.OK)
		many := v.T[0].S.T.Room - whole.T[0].S.T.Room
		for _, room := range []int{0, 1, many - 1} {
			w := copied(v)
			w.T[0].S.T.Room = room
			got, body := wantDone(t, "without room", w, asked, api.ErrFull)
			w.T[0].M = whole.T[0].M
			wantAudit(t, "without room", got, w)
			if body != "" {
				t.Errorf("%q", body)
			}
		}
		w := copied(v)
		w.T[0].S.T.Room = many
		wantDone(t, "with just the room", w, asked, api.OK)
	}
}

// P19.4: a time more, up to the greatest; nothing else is changed.
func TestTick(t *testing.T) {
	v := after(t, sealed(t, 1000, good()), 1, put(begin(1)))
	for _, now := range []uint64{0, 1, 255, 1<<32 - 1, 1<<63 - 1, 1 << 63, math.MaxUint64 - 2, math.MaxUint64 - 1} {
		v.Now = now
		want := copied(v)
		want.Now = now + 1
		wantAudit(t, "Tick", Tick(v), want)
	}
	v.Now = math.MaxUint64
	wantAudit(t, "Tick at the greatest time", Tick(v), v)
	wantAudit(t, "Tick of nobody", Tick(api.Audit{}), api.Audit{Now: 1})
}

// P19.4: of the tenant of that name the power is armed, of no other one.
func TestArm(t *testing.T) {
	v := after(t, sealed(t, 1000, good()), 1, put(begin(1)))
	for i, name := range []string{"a", "b"} {
		for _, fuse := range []int{math.MinInt, -2, -1, 0, 1, 5, math.MaxInt} {
			for _, was := range []int{-1, 0, 7} {
				w := copied(v)
				w.T[i].S.T.Fuse = was
				want := copied(w)
				want.T[i].S.T.Fuse = max(fuse, -1)
				wantAudit(t, fmt.Sprint("Arm ", name, fuse), Arm(w, name, fuse), want)
				w.T[i].S.T.Off = true
				wantAudit(t, "Arm of one that is off", Arm(w, name, fuse), w)
			}
			for _, other := range []string{"", "c", "A", "aa", "a\x00", filler(100)} {
				wantAudit(t, "Arm of none", Arm(v, other, fuse), v)
			}
		}
	}
	twice := api.Audit{T: []api.Tenant{{Name: "b"}, {Name: "a"}, {Name: "a"}, {}, {}}}
	want := copied(twice)
	want.T[1].S.T.Fuse = 3
	wantAudit(t, "Arm of the first", Arm(twice, "a", 3), want)
	want = copied(twice)
	want.T[3].S.T.Fuse = 4
	wantAudit(t, "Arm of the first without a name", Arm(twice, "", 4), want)
}

// P19.4: what waits is kept as far as it is told, of each tenant; meters are full, and the power is on.
func TestCrash(t *testing.T) {
	v := after(t, sealed(t, 1000, good()), 0, put(begin(1)), put(begin(2)), put(begin(3)))
	v = after(t, v, 1, put(write(1, "a", "x")), "h", put(begin(2)))
	v.Now += 5
	v.T[0].M.Left = 3
	for keep, many := range map[int][2]int{math.MinInt: {0, 0}, -1: {0, 0}, 0: {0, 0}, 3: {0, 0}, 4: {1, 0}, 7: {1, 0}, 8: {2, 1}, 11: {2, 1}, 12: {3, 2}, 13: {3, 2}, math.MaxInt: {3, 2}} {
		for _, off := range []int{-1, 0, 1} {
			w := copied(v)
			if off >= 0 {
				w.T[off].S.T.Off, w.T[off].S.T.Fuse = true, 0
			}
			got, e := Crash(w, keep)
			want := copied(v)
			for i := range 2 {
				s := &want.T[i].S
				s.Open = s.Open[:many[i]]
				whole := ""
				for _, x := range s.Open {
					whole += plainText(put(x))
				}
				s.T = api.Tape{Safe: s.T.Safe + whole, Room: s.T.Room + len(s.T.Wait) - len(whole), Fuse: -1}
				want.T[i].M = api.Meter{At: v.Now, Left: 150}
			}
			wantAudit(t, fmt.Sprint("Crash ", keep), got, want)
			wantAudit(t, fmt.Sprint("by other words, Crash ", keep), plainCrash(w, keep), want)
			if e != api.OK {
				t.Error(e)
			}
			again, e := Crash(got, keep)
			wantAudit(t, "a crash behind a crash", again, want)
			if e != api.OK {
				t.Error(e)
			}
		}
	}
	got, e := Crash(api.Audit{Now: 4}, 0)
	wantAudit(t, "Crash of nobody", got, api.Audit{Now: 4})
	if e != api.OK {
		t.Error(e)
	}
}

// P19.4: a tape that tells what no store does is told of, and nobody is changed, wherever its tenant stands.
func TestCrashOfOddTape(t *testing.T) {
	v := after(t, sealed(t, 1000, good()), 1, put(begin(1)))
	for i := range 2 {
		for _, rec := range []string{"x", "", "s", "e\x01"} {
			w := copied(v)
			w.T[i].S.T.Safe = plainText(rec) + w.T[i].S.T.Safe
			got, e := Crash(w, 9)
			wantAudit(t, "Crash of an odd tape", got, w)
			if e != api.ErrForm {
				t.Errorf("%d, want %d", e, api.ErrForm)
			}
		}
	}
}
