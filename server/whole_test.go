package server

import (
	"fmt"
	"math"
	"math/rand"
	"slices"
	"strings"
	"testing"

	"cartouche/api"
	"cartouche/cert"
	"cartouche/chain"
)

// someServer is a new one, of one to four tenants.
func someServer(t *testing.T, r *rand.Rand) (api.Audit, int) {
	t.Helper()
	l, room := four(), []int{100000, 100000, 3000, 300, r.Intn(20000)}[r.Intn(5)]
	r.Shuffle(4, func(i, j int) { l[i], l[j] = l[j], l[i] })
	return fresh(t, room, l[:1+r.Intn(4)]...), room
}

// P19.2 to P19.4, P19.6 to P19.8: scripts at random, each step against the document's words, and against what each tenant knows by its replies.
func TestScripts(t *testing.T) {
	r := rand.New(rand.NewSource(19))
	s := newSeen()
	for range 120 {
		v, room := someServer(t, r)
		var l []*known
		for _, x := range v.T {
			l = append(l, &known{t: x})
		}
		for _, x := range script(r, v.T, 500, []int{10, 40, 400}[r.Intn(3)]) {
			w, reply := x.on(v)
			want, plain := x.plainOn(v)
			wantAudit(t, fmt.Sprintf("%c %.99q %d", x.what, x.s, x.n), w, want)
			if reply != plain {
				t.Fatalf("%c %.99q %d: %q, want %q", x.what, x.s, x.n, reply, plain)
			}
			for i, k := range l {
				if x.owns(k.t.Name) {
					k.step(t, x, reply, s)
				}
				k.want(t, w.T[i], room, w.Now)
			}
			v = w
			if t.Failed() {
				return
			}
		}
		for _, k := range l {
			wantChained(t, k.certs)
		}
		wantServed(t, v)
	}
	for e, least := range map[api.Errno]int{api.OK: 10000, api.ErrNone: 400, api.ErrFull: 400, api.ErrDead: 1000, api.ErrPass: 200, api.ErrLate: 100, api.ErrForm: 300, api.ErrQuota: 500, api.ErrArg: 50, api.ErrState: 20} {
		if s.told[e] < least {
			t.Errorf("error %d told %d times", e, s.told[e])
		}
	}
	for level := 1; level <= 2; level++ {
		if s.good[level][true] < 200 || s.good[level][false] < 100 {
			t.Errorf("at %d: %v", level, s.good[level])
		}
	}
	if s.good[1][false] <= s.good[2][false] {
		t.Errorf("as snapshots no more are good: %v", s.good)
	}
	if s.crashes < 500 || s.lost < 100 {
		t.Errorf("%d crashes, %d with losses", s.crashes, s.lost)
	}
}

// wantChained is P19.7 of certificates: each is of its number, and has the head of those ahead; all are chained.
func wantChained(t *testing.T, l []string) {
	t.Helper()
	links, e := chain.Links(l)
	head := plainHead(l)
	if e != api.OK || chain.Check(links, head) != api.OK {
		t.Errorf("%d certificates aren't chained", len(l))
	}
	for i, body := range l {
		c, e := cert.Take(body)
		if e != api.OK || c.Seq != i+1 || c.Prev != links[i].Prev {
			t.Errorf("certificate %d: %d, %+v", i+1, e, c)
		}
	}
}

// wantServed is P19.8: a tick later each tenant is served, whatever was ahead; and behind a crash its store goes on.
func wantServed(t *testing.T, v api.Audit) {
	t.Helper()
	v = Tick(v)
	for i, x := range v.T {
		for range 150 {
			var reply string
			v, reply = Handle(v, of(x, "h"))
			if reply != plainReply(api.OK, v.Now, plainHead(x.S.Certs)) {
				t.Fatalf("%q isn't served: %q", x.Name, reply)
			}
		}
		if v.T[i].M != (api.Meter{At: v.Now}) {
			t.Errorf("%q: %d left at %d", x.Name, v.T[i].M.Left, v.T[i].M.At)
		}
		wantRefused(t, "one more", v, of(x, "h"), api.ErrQuota)
	}
	v, _ = Crash(v, 0)
	for i, x := range v.T {
		want := []api.Errno{api.OK, api.ErrFull}[min(len(x.S.Open)/64, 1)]
		if x.S.T.Room < 4 {
			want = api.ErrFull
		}
		w, reply := Handle(v, of(x, put(begin(1))))
		if reply != plainReply(want, v.Now, "") || w.T[i].S.T.Off {
			t.Errorf("%q: %q behind a crash", x.Name, reply)
		}
	}
}

// P19.5: each tenant's replies, one by one, and all it has, are those that it gets where it is alone.
func TestEachByItself(t *testing.T) {
	r := rand.New(rand.NewSource(5))
	replies, shared := 0, 0
	for range 40 {
		v, room := someServer(t, r)
		l := script(r, v.T, 500, []int{10, 40, 400}[r.Intn(3)])
		together := slices.Clone(v.T)
		told := map[string][]string{}
		for _, x := range l {
			w, reply := x.on(v)
			for i, a := range together {
				if x.owns(a.Name) {
					told[a.Name] = append(told[a.Name], reply)
				} else if !plainTenantSame(w.T[i], v.T[i]) {
					t.Errorf("%c %.99q %d changes %q", x.what, x.s, x.n, a.Name)
				}
			}
			v = w
		}
		shared += len(together) - 1
		for i, a := range together {
			alone := fresh(t, room, api.Tenant{Name: a.Name, Key: a.Key, Seed: a.Seed})
			n := 0
			for _, x := range l {
				if !x.owns(a.Name) {
					continue
				}
				var reply string
				alone, reply = x.on(alone)
				if reply != told[a.Name][n] {
					t.Fatalf("%q is replied %q among others, %q alone", a.Name, told[a.Name][n], reply)
				}
				n++
			}
			replies += n
			if !plainTenantSame(alone.T[0], v.T[i]) || alone.Now != v.Now {
				t.Errorf("%s alone, %s among others", shown(alone), shown(v))
			}
		}
	}
	if replies < 10000 || shared < 30 {
		t.Errorf("%d replies, %d others", replies, shared)
	}
}

// T2: other names of keys and values change nothing but tags and sums.
func TestOtherNames(t *testing.T) {
	r := rand.New(rand.NewSource(7))
	rename := func(s, mark string) string {
		if s == "" {
			return s
		}
		return mark + s
	}
	bare := func(body string) string {
		c, e := cert.Take(body)
		if e != api.OK {
			t.Fatal(e)
		}
		c.Root, c.Prev = "", ""
		for i := range c.Proofs {
			x := &c.Proofs[i]
			x.Event.Key, x.Event.Val, x.Path = "", strings.Repeat("v", min(len(x.Event.Val), 1)), x.Path[:0]
		}
		return fmt.Sprintf("%+v", c)
	}
	many := 0
	for range 300 {
		h := someHistory(r)
		v, w := sealed(t, 100000, h), sealed(t, 100000, mapped(h, func(x api.Event) api.Event {
			x.Key, x.Val = rename(x.Key, "key "), rename(x.Val, "value ")
			return x
		}))
		for level := 1; level <= 2; level++ {
			var one, other string
			v, one = Handle(Tick(v), of(v.T[0], judged(0, level)))
			w, other = Handle(Tick(w), of(w.T[0], judged(0, level)))
			if len(one) != len(other) || one[:2] != other[:2] {
				t.Fatalf("%q, %q", one, other)
			}
			if one[0] == 0 {
				many++
				if bare(bodyOf(one)) != bare(bodyOf(other)) {
					t.Errorf("%s, %s", bare(bodyOf(one)), bare(bodyOf(other)))
				}
			}
		}
	}
	if many < 200 {
		t.Errorf("%d certificates", many)
	}
}

// P19.7: the power goes at each byte of what a tenant writes, and whatever is kept then: what was sealed and noted is there, and goes on, chained.
func TestEachLossOfPower(t *testing.T) {
	s := newSeen()
	asked := slices.Concat(puts(skew()...), []string{"s", judged(0, 1)}, puts(good()...), []string{judged(0, 2), "s", judged(1, 1)})
	whole := after(t, fresh(t, 100000, ab()...), 0, asked...).T[0].S.T
	many := len(whole.Safe)
	for fuse := 0; fuse < many; fuse += 1 + fuse%7 {
		v := Arm(fresh(t, 100000, ab()...), "a", fuse)
		k := &known{t: ab()[0]}
		dead := false
		for _, a := range asked {
			x := step{what: 'r', s: of(k.t, a)}
			var reply string
			v, reply = x.on(v)
			dead = dead || reply[:2] == "\x01\x06"
			k.step(t, x, reply, s)
		}
		if !dead {
			t.Fatalf("fuse %d: the power stays", fuse)
		}
		for _, keep := range []int{0, 3, 8, 30, len(v.T[0].S.T.Wait)} {
			after := *k
			x := step{what: 'c', n: keep}
			w, reply := x.on(v)
			after.step(t, x, reply, s)
			after.want(t, w.T[0], 100000, w.Now)
			for _, a := range append(puts(good()...), "s", judged(len(after.hists), 1), fetched(1), "h") {
				x := step{what: 'r', s: of(k.t, a)}
				w, reply = x.on(w)
				after.step(t, x, reply, s)
				after.want(t, w.T[0], 100000, w.Now)
			}
			wantChained(t, after.certs)
		}
	}
	if s.crashes < 500 || s.lost < 100 || s.good[1][true] < 100 {
		t.Errorf("%d crashes, %d with losses, %v", s.crashes, s.lost, s.good)
	}
}

// P19.8: what is no request, or has no pass, changes nothing: of several requests each change of one byte, each beginning, and each with a byte more.
func TestEachOtherByte(t *testing.T) {
	v := after(t, sealed(t, 1000, good()), 0, judged(0, 1), put(begin(1)))
	v.Now = 7
	told := map[api.Errno]int{}
	try := func(s string) {
		w, e, _ := wantPlain(t, fmt.Sprintf("%q", s), v, s)
		told[e]++
		if e == api.ErrForm || e == api.ErrPass || e == api.ErrLate {
			wantAudit(t, fmt.Sprintf("%q", s), w, v)
		}
		if name, is := Claims(s); is {
			if p, also := cutTicket(s); !also || p.name != name {
				t.Errorf("%q claims %q", s, name)
			}
		} else if e != api.ErrForm || name != "" {
			t.Errorf("%q claims nobody: %d, %q", s, e, name)
		}
	}
	for _, asked := range []string{"h", "s", judged(0, 1), fetched(1), put(write(1, "a", "x"))} {
		s := of(v.T[0], asked)
		for i := range len(s) {
			try(s[:i])
			for b := range 256 {
				if i < 26 || i >= len(s)-len(asked) || b%8 == 0 {
					try(s[:i] + string([]byte{byte(b)}) + s[i+1:])
				}
			}
		}
		for b := range 256 {
			try(s + string([]byte{byte(b)}))
		}
	}
	if told[api.ErrForm] < 5000 || told[api.ErrPass] < 5000 || told[api.OK] < 50 {
		t.Errorf("%v", told)
	}
}

// P19.2: all short texts behind a pass.
func TestAllShortRequests(t *testing.T) {
	v := after(t, sealed(t, 100000, good(), lost()), 0, judged(0, 1), put(begin(1)))
	requests := 0
	try := func(asked string) {
		if plainWish(asked).isAWish {
			requests++
			wantPlain(t, fmt.Sprintf("%q", asked), v, of(v.T[0], asked))
		} else {
			wantRefused(t, fmt.Sprintf("%q", asked), v, of(v.T[0], asked), api.ErrForm)
		}
	}
	for a := range 256 {
		try(string([]byte{byte(a)}))
		for b := range 256 {
			try(string([]byte{byte(a), byte(b)}))
		}
	}
	for _, kind := range "esjfh" {
		var onward func(s string)
		onward = func(s string) {
			try(s)
			if len(s) < 6 {
				for _, b := range "\x00\x01\x02\x03" {
					onward(s + string(b))
				}
			}
		}
		onward(string(kind))
	}
	if requests < 100 {
		t.Errorf("%d requests", requests)
	}
}

// R3, R4: what is handed in stays as it was, with what is behind its lists; two servers go on from one; no call remembers another one.
func TestNothingIsKept(t *testing.T) {
	v := after(t, sealed(t, 100000, good(), lost()), 0, judged(0, 1), put(begin(1)))
	v = after(t, v, 1, put(begin(2)))
	for i := range v.T {
		s := &v.T[i].S
		s.Open = append(make([]api.Event, 0, 9), s.Open...)
		s.Hists = append(make([][]api.Event, 0, 9), s.Hists...)
		s.Certs = append(make([]string, 0, 9), s.Certs...)
	}
	v.T = append(make([]api.Tenant, 0, 9), v.T...)
	was := copied(v)
	steps := []step{{what: 't'}, {what: 'a', s: "a", n: 3}, {what: 'a', s: "b", n: 0}, {what: 'c', n: 2}, {what: 'c', n: 9}}
	for _, asked := range []string{put(commit(1)), put(abort(1)), "s", judged(0, 1), judged(1, 2), fetched(1), "h", "x"} {
		steps = append(steps, step{what: 'r', s: of(v.T[0], asked)}, step{what: 'r', s: of(v.T[1], asked)})
	}
	first := map[int]api.Audit{}
	for range 2 {
		for i, x := range steps {
			w, reply := x.on(v)
			want, plain := x.plainOn(was)
			wantAudit(t, "one of several", w, want)
			if reply != plain {
				t.Errorf("%q, want %q", reply, plain)
			}
			if _, is := first[i]; !is {
				first[i] = w
			}
			for _, y := range steps {
				far, _ := y.on(w)
				Tick(far)
				for _, z := range steps {
					z.on(far)
				}
			}
			Same(v, w)
			wantAudit(t, "what was handed in", v, was)
			for i := range v.T {
				if more := v.T[i].S; len(more.Open[:9][8].Key)+len(more.Hists[:9][8])+len(more.Certs[:9][8]) > 0 || more.Open[:9][len(more.Open)].Kind != 0 || more.Hists[:9][len(more.Hists)] != nil || more.Certs[:9][len(more.Certs)] != "" {
					t.Error("what is behind a list is written into")
				}
			}
			if v.T[:9][2].Name != "" {
				t.Error("what is behind the tenants is written into")
			}
		}
	}
	for i, x := range steps {
		want, _ := x.plainOn(was)
		wantAudit(t, "what came out at first", first[i], want)
	}
}

// R3: New goes on with none of what it was handed.
func TestNewIsNew(t *testing.T) {
	l := append(make([]api.Tenant, 0, 9), ab()...)
	v := fresh(t, 100, l...)
	l[0].Name, l[1].Key = "x", "y"
	wantAudit(t, "what came out", v, fresh(t, 100, ab()...))
	w := append(v.T, api.Tenant{Name: "z"})
	w[0].Name = "other"
	if l[0].Name != "x" || l[:3][2].Name != "" {
		t.Error("what was handed in is written into")
	}
}

// R1: servers that no call made: more of all than there may be, keys and names that may not be, two of one name.
func TestMadeByHand(t *testing.T) {
	long := api.Tenant{Name: "a", Key: "k", Seed: "s", M: api.Meter{At: 3, Left: 1000}}
	long.S = api.Store{T: api.Tape{Safe: "\x01x", Wait: "\xff", Room: 1000, Fuse: -1}, Certs: []string{filler(65535), filler(65536), ""}, Hists: [][]api.Event{nil, {{}}, slices.Repeat([]api.Event{begin(1)}, 300), good()}}
	v := api.Audit{Now: 3, T: []api.Tenant{{}, {Name: filler(17), Key: "k"}, {Name: "b", Key: filler(33)}, {Name: "c"}, long, {Name: "a", Key: "k"}, {Name: "d", Key: "k", M: api.Meter{Left: math.MinInt}}}}
	for _, c := range []struct {
		key, name, asked string
		want             api.Errno
	}{
		{"k", "b", "h", api.ErrPass}, {"k", "c", "h", api.ErrPass}, {"k", "a", "h", api.ErrBig}, {"k", "a", judged(3, 1), api.ErrBig}, {"k", "a", judged(0, 1), api.ErrBig}, {"k", "a", judged(4, 1), api.ErrNone},
		{"k", "a", fetched(1), api.OK}, {"k", "a", fetched(2), api.ErrBig}, {"k", "a", fetched(3), api.OK}, {"k", "a", fetched(4), api.ErrNone}, {"k", "a", "s", api.ErrNone}, {"k", "a", put(begin(1)), api.OK}, {"k", "d", "h", api.OK},
	} {
		w, reply := Handle(v, ticketOf(c.key, c.name, 9)+c.asked)
		if reply[:len(plainNum(uint64(c.want)))] != plainNum(uint64(c.want)) || c.want != api.OK && reply != plainReply(c.want, 3, "") {
			t.Errorf("%q of %q: %.80q, want %d", c.asked, c.name, reply, c.want)
		}
		if c.want == api.ErrPass {
			wantAudit(t, "refused", w, v)
		}
	}
	many := v
	many.T = slices.Repeat(v.T, 3000)
	many.T[len(many.T)-1].Name = "last"
	got := Arm(many, "last", 3)
	if got.T[len(got.T)-1].S.T.Fuse != 3 || !Same(many, many) || Same(many, got) {
		t.Error("of many tenants")
	}
	if _, e := Crash(many, 0); e != api.ErrForm {
		t.Error(e)
	}
	empty := api.Audit{Now: 4, T: make([]api.Tenant, 30000)}
	if got, e := Crash(empty, 0); e != api.OK || len(got.T) != 30000 || got.T[29999].M != (api.Meter{At: 4, Left: 150}) {
		t.Error(e)
	}
}

// The document's examples: of the chapter, and the ten of the whole.
func TestExamples(t *testing.T) {
	v := fresh(t, 100000, api.Tenant{Name: "a", Key: "k", Seed: "s"})
	wantReply(t, "a request of nothing", v, "", v, "\x01\x03\x00\x00")
	wantReply(t, "of a tenant that there isn't", v, ticketOf("k", "b", 9)+"h", v, "\x01\x0a\x00\x00")

	ask := func(asked string, want api.Errno) string {
		t.Helper()
		var reply string
		v, reply = Handle(v, ticketOf("k", "a", 9)+asked)
		body := bodyOf(reply)
		if reply != plainReply(want, v.Now, body) || want != api.OK && body != "" {
			t.Errorf("%q: %q, want %d", asked, reply, want)
		}
		return body
	}
	ask("e\x01\x01", api.OK)
	ask("e\x03\x01\x01x\x011", api.OK)
	ask("e\x04\x01", api.OK)
	ask("j\x00\x01\x01", api.ErrNone)
	ask("s", api.OK)
	body := ask("j\x00\x01\x01", api.OK)
	c, e := cert.Take(body)
	if e != api.OK || c.Seq != 1 || !c.V.Accept || !slices.Equal(c.V.Order, []int{1}) || c.Tenant != "a" {
		t.Errorf("%d, %+v", e, c)
	}
	if ask("f\x01\x01", api.OK) != body || len(ask("h", api.OK)) != 32 {
		t.Error("other bytes")
	}
	v, e = Crash(v, 0)
	if e != api.OK || ask("f\x01\x01", api.OK) != body {
		t.Errorf("behind a crash: %d", e)
	}
	for range 10 {
		v = Tick(v)
	}
	ask("h", api.ErrLate)
}
