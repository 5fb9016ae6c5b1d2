package chain

import (
	"math/rand"
	"slices"
	"strings"
	"testing"

	"cartouche/api"
	"cartouche/blake"
)

// The sums below in figures were reckoned by another program, from CPython's hashlib and the document's words.

func filler(n int) string {
	b := make([]byte, n)
	for i := range b {
		b[i] = byte(i*7 + n)
	}
	return string(b)
}

func bodies(n int) []string {
	l := make([]string, n)
	for i := range l {
		l[i] = filler(i * 37 % 101)
	}
	return l
}

func head(t *testing.T, l []string) string {
	t.Helper()
	h, e := Head(l)
	if e != api.OK {
		t.Fatalf("Head of %d: %d", len(l), e)
	}
	return h
}

func chained(t *testing.T, l []string) []api.Link {
	t.Helper()
	x, e := Links(l)
	if e != api.OK {
		t.Fatalf("Links of %d: %d", len(l), e)
	}
	return x
}

func wantCheck(t *testing.T, what string, l []api.Link, head string, want api.Errno) {
	t.Helper()
	if e := Check(l, head); e != want {
		t.Errorf("%s: %d, want %d", what, e, want)
	}
}

func wantNothing(t *testing.T, what string, a, b string, is bool) {
	t.Helper()
	if a != "" || b != "" || is {
		t.Errorf("%s: %.40x, %.40x, %t", what, a, b, is)
	}
}

// weak gives a sum of 32 bytes by which many unlike texts have the same one.
func weak(many int) func(string) string {
	return func(s string) string {
		n := len(s)
		for i := range len(s) {
			n = n*31 + int(s[i])
			n %= 1 << 20
		}
		return strings.Repeat("w", api.Digest-1) + string([]byte{byte(n % many)})
	}
}

// plainText are a text's bytes, by the document's words.
func plainText(s string) string {
	if len(s) <= 250 {
		return string([]byte{byte(len(s))}) + s
	}
	return string([]byte{251, byte(len(s) / 256), byte(len(s) % 256)}) + s
}

func plainInput(prev, body string) string {
	return "\x03" + plainText(prev) + plainText(body)
}

func plainHead(sum func(string) string, l []string) string {
	if len(l) == 0 {
		return ""
	}
	last := len(l) - 1
	return sum(plainInput(plainHead(sum, l[:last]), l[last]))
}

// plainDiffer is Differ by any sum, by the document's words: the last two, or those ahead of them.
func plainDiffer(sum func(string) string, a, b []string) (string, string, bool) {
	if len(a) == 0 || len(b) == 0 {
		return "", "", false
	}
	m, n := len(a)-1, len(b)-1
	x := plainInput(plainHead(sum, a[:m]), a[m])
	y := plainInput(plainHead(sum, b[:n]), b[n])
	switch {
	case x == y:
		return plainDiffer(sum, a[:m], b[:n])
	case sum(x) == sum(y):
		return x, y, true
	}
	return "", "", false
}

// someRows are two rows, often alike in many places, and sometimes of other lengths.
func someRows(r *rand.Rand) ([]string, []string) {
	a := make([]string, r.Intn(7))
	for i := range a {
		a[i] = filler(r.Intn(6))
	}
	b := slices.Clone(a)
	if r.Intn(4) == 0 {
		b = make([]string, r.Intn(7))
	}
	for i := range b {
		if r.Intn(3) == 0 {
			b[i] = filler(r.Intn(6))
		}
	}
	return a, b
}

// P4.1: what is summed, and its sum, at the edges of both texts.
func TestInputAndNext(t *testing.T) {
	for _, c := range []struct {
		prev, body int
		want       string
	}{
		{0, 0, "7889298a9681356430d8c6ee7f45c9df6154474da8839e183989ec67673808a0"},
		{0, 1, "e2f406337d00018a80dc854af3119a51dda9097349512bd3e83a00dc80a4cee8"},
		{1, 0, "0894704f3830c63957f4165a28e8e75727a9503d0c832846fedb3a51f6883910"},
		{32, 0, "dfefa681d2b4c7c860d7eea9d8efae9c1387271e8238fdb71e76d608138a977e"},
		{32, 64, "9a8754843cabde56be3d1ff014ae3bc6033ea8939ab8ee402f626f32485fdc56"},
		{250, 250, "44b46fea0e8b7b284d73598b76f4ddc4c1aeefcef83fa11d63c9c2730bfbe07c"},
		{251, 251, "1b6d1f2145c15fcd63f819db4dd8b43c88a5026325dfe8f732cc6a461ef72ace"},
		{250, 251, "871488115ed1c59aa88c0a87c84882ca49b945530c0beaf5a84040bac0ce8241"},
		{255, 256, "3f640c9aaac655b7c118bb7e0e7c0130d1fa21d0cad5dc3afb1b897bf92f12db"},
		{65535, 0, "d59b23cb1d571a2ee5a87a915c04325b5886e41fdc2d8b0b2d2ff24b1cfed390"},
		{0, 65535, "f93eade43d5d8e9035e97e6b5a995e62bbf52bcd1aa3a9afa52a29c0b148b402"},
		{65535, 65535, "1bb3045d04966c55baf3500cf45e115a352159d1f579f5ccdbb28098a663e2e5"},
	} {
		prev, body := filler(c.prev), filler(c.body)
		if s, e := Input(prev, body); s != plainInput(prev, body) || e != api.OK {
			t.Errorf("Input of %d and %d: %d bytes, %d", c.prev, c.body, len(s), e)
		}
		if s, e := Next(prev, body); blake.Hex(s) != c.want || e != api.OK {
			t.Errorf("Next of %d and %d: %x, %d, want %s", c.prev, c.body, s, e, c.want)
		}
	}
	if s, e := Input("a", "bc"); s != "\x03\x01a\x02bc" || e != api.OK {
		t.Errorf("%x, %d", s, e)
	}
}

// P4.1: one of both too long, or both.
func TestInputAndNextRefuse(t *testing.T) {
	for _, c := range []struct{ prev, body int }{
		{api.MaxText + 1, 0}, {0, api.MaxText + 1}, {api.MaxText + 1, api.MaxText}, {api.MaxText, api.MaxText + 1},
		{api.MaxText + 1, api.MaxText + 1}, {1 << 17, 1}, {1, 1 << 17},
	} {
		if s, e := Input(filler(c.prev), filler(c.body)); s != "" || e != api.ErrBig {
			t.Errorf("Input of %d and %d: %d bytes, %d", c.prev, c.body, len(s), e)
		}
		if s, e := Next(filler(c.prev), filler(c.body)); s != "" || e != api.ErrBig {
			t.Errorf("Next of %d and %d: %d bytes, %d", c.prev, c.body, len(s), e)
		}
	}
}

// P4.1: heads; that of nothing is the empty text.
func TestHead(t *testing.T) {
	for _, c := range []struct {
		many int
		want string
	}{
		{0, ""},
		{1, "7889298a9681356430d8c6ee7f45c9df6154474da8839e183989ec67673808a0"},
		{2, "486522cd5d9166caad4c0f25b5d81c3b9f98ed5550f015a30f765b36e86e4199"},
		{3, "9dad93229e02d39262398768e29d22d96167cc0c5308ea09b5394ec7e3e872eb"},
		{4, "6c62626b22f2a3107b91cc4d367f94530a38c6257c9bb9ce50c639f43db378e0"},
		{16, "6531b117f302da6084c5d91876effa1496198f993a6d7c840b709f569fe6a80a"},
		{100, "81afeb6d69c69ab5e68271fe8ae06dbd2be664c214a6875f10fac4dc71c53d5f"},
		{1000, "b194c2963a24f257f5dd758abe36547446475a5edc05f0361eaf17d37a5bc6aa"},
		{5000, "4ac155552acbae47e5bff6894d4321349312fc754f936ba54112d8ce016a4b88"},
	} {
		if h, e := Head(bodies(c.many)); blake.Hex(h) != c.want || e != api.OK {
			t.Errorf("Head of %d: %x, %d, want %s", c.many, h, e, c.want)
		}
	}
	if h, e := Head(nil); h != "" || e != api.OK {
		t.Errorf("Head of nil: %x, %d", h, e)
	}
	if h := head(t, []string{"", ""}); blake.Hex(h) != "a06dee23d727ed03d47cf5bfac6254c223c9d65fb06f2f7548c1112510805f49" {
		t.Errorf("Head of two empty bodies: %x", h)
	}
}

// P4.1: each body, and the head of those ahead of it; the first one's Prev is empty.
func TestLinks(t *testing.T) {
	for _, many := range []int{0, 1, 2, 3, 9, 40} {
		l := bodies(many)
		x := chained(t, l)
		if len(x) != many {
			t.Fatalf("%d links of %d", len(x), many)
		}
		for i := range x {
			if want := (api.Link{Prev: plainHead(blake.Sum, l[:i]), Body: l[i]}); x[i] != want {
				t.Errorf("link %d of %d: %x, want %x", i, many, x[i], want)
			}
		}
	}
	if x, e := Links(nil); len(x) != 0 || e != api.OK {
		t.Errorf("Links of nil: %v, %d", x, e)
	}
	if x := chained(t, []string{"a", "b"}); x[0] != (api.Link{Body: "a"}) {
		t.Errorf("the first of two: %x", x[0])
	}
}

// P4.1: a body that is too long, at each place; one that is just not is taken.
func TestHeadAndLinksRefuse(t *testing.T) {
	for at := range 4 {
		l := bodies(4)
		l[at] = filler(api.MaxText)
		if h, e := Head(l); h != plainHead(blake.Sum, l) || e != api.OK {
			t.Errorf("Head, the longest at %d: %x, %d", at, h, e)
		}
		if x, e := Links(l); len(x) != 4 || e != api.OK {
			t.Errorf("Links, the longest at %d: %d, %d", at, len(x), e)
		}
		l[at] = filler(api.MaxText + 1)
		if h, e := Head(l); h != "" || e != api.ErrBig {
			t.Errorf("Head, too long at %d: %x, %d", at, h, e)
		}
		if x, e := Links(l); len(x) != 0 || e != api.ErrBig {
			t.Errorf("Links, too long at %d: %d, %d", at, len(x), e)
		}
	}
}

// P4.2: no links come to the empty text, and to no other one.
func TestCheckOfNothing(t *testing.T) {
	wantCheck(t, "nil", nil, "", api.OK)
	wantCheck(t, "none", []api.Link{}, "", api.OK)
	wantCheck(t, "nil, a sum", nil, blake.Sum(""), api.ErrRoot)
	wantCheck(t, "nil, a byte", nil, "\x00", api.ErrRoot)
	wantCheck(t, "one, no head", chained(t, []string{"a"}), "", api.ErrRoot)
}

// P4.2: at each place another Prev, another body, a link that is left out, told twice or swapped; and other heads.
func TestCheckRefuses(t *testing.T) {
	l := bodies(5)
	h, good := head(t, l), chained(t, l)
	for _, wrong := range []string{"", "a", h[:31], h + "\x00", blake.Sum(h), good[4].Prev} {
		wantCheck(t, "another head", good, wrong, api.ErrRoot)
	}
	for i := range good {
		for _, prev := range []string{"", "a", h, good[i].Prev + "\x00", blake.Sum(good[i].Prev), filler(api.MaxText + 1)} {
			x := slices.Clone(good)
			x[i].Prev = prev
			if prev != good[i].Prev {
				wantCheck(t, "another Prev", x, h, api.ErrChain)
			}
		}
		x := slices.Clone(good)
		x[i].Body += "\x00"
		want := api.ErrChain // of the link behind it
		if i == 4 {
			want = api.ErrRoot
		}
		wantCheck(t, "another body", x, h, want)
		wantCheck(t, "one left out", slices.Delete(slices.Clone(good), i, i+1), h, want)
		wantCheck(t, "one told twice", slices.Insert(slices.Clone(good), i, good[i]), h, api.ErrChain)
		if i > 0 {
			x = slices.Clone(good)
			x[i-1], x[i] = x[i], x[i-1]
			wantCheck(t, "two swapped", x, h, api.ErrChain)
		}
	}
}

// P4.2: of several errors the first link's, and of one link ErrChain first; ErrRoot last.
func TestCheckTellsTheFirst(t *testing.T) {
	big := filler(api.MaxText + 1)
	good := chained(t, bodies(3))
	wantCheck(t, "too long", []api.Link{{Body: big}}, "", api.ErrBig)
	wantCheck(t, "another Prev, too long", []api.Link{{Prev: "a", Body: big}}, "", api.ErrChain)
	wantCheck(t, "another Prev that is too long, too long", []api.Link{{Prev: big, Body: big}}, "", api.ErrChain)
	wantCheck(t, "too long, then another Prev", []api.Link{{Body: big}, {Prev: "a"}}, "", api.ErrBig)
	wantCheck(t, "another Prev, then too long", []api.Link{{Prev: "a"}, {Body: big}}, "", api.ErrChain)
	wantCheck(t, "too long, then its Prev empty", []api.Link{{Body: big}, {}}, "", api.ErrBig)
	x := slices.Clone(good)
	x[2].Body = big
	wantCheck(t, "the last one too long", x, "", api.ErrBig)
	x[2].Prev = ""
	wantCheck(t, "the last one too long, with another Prev", x, "", api.ErrChain)
	x = slices.Clone(good)
	x[0].Body = big
	wantCheck(t, "the first one too long", x, head(t, bodies(3)), api.ErrBig)
	x = slices.Clone(good)
	x[1].Prev = ""
	wantCheck(t, "another Prev and another head", x, "", api.ErrChain)
}

// P4.2: by sums of which no two unlike texts are known nothing comes to light; nor of rows without a Head, by whatever sums.
func TestDifferGivesNothing(t *testing.T) {
	big := filler(api.MaxText + 1)
	rows := [][]string{nil, {""}, {"a"}, {"a", ""}, {"", "a"}, {"b", "a"}, {"a", "b", "a"}, bodies(3), bodies(4), bodies(50), {filler(api.MaxText)}}
	for _, a := range rows {
		for _, b := range rows {
			x, y, is := Differ(a, b)
			wantNothing(t, "Differ", x, y, is)
		}
	}
	for _, none := range [][]string{{big}, {"a", big}, {big, "a"}, {"b", big, "a"}} {
		for _, a := range append(rows, none) {
			x, y, is := Differ(a, none)
			wantNothing(t, "the second one has no Head", x, y, is)
			x, y, is = Differ(none, a)
			wantNothing(t, "the first one has no Head", x, y, is)
			x, y, is = differ(weak(1), a, none)
			wantNothing(t, "the second one has no Head, by one sum", x, y, is)
			x, y, is = differ(weak(1), none, a)
			wantNothing(t, "the first one has no Head, by one sum", x, y, is)
		}
	}
}

// P4.2: by weak sums: the first two from the last bodies on, of two rows of any kind.
func TestDifferByWeakSums(t *testing.T) {
	r := rand.New(rand.NewSource(1))
	last, deep, none := 0, 0, 0
	for range 20000 {
		sum := weak(1 + r.Intn(5))
		a, b := someRows(r)
		x, y, is := differ(sum, a, b)
		u, v, want := plainDiffer(sum, a, b)
		if x != u || y != v || is != want {
			t.Fatalf("%q, %q: %x, %x, %t, want %x, %x, %t", a, b, x, y, is, u, v, want)
		}
		switch {
		case !is:
			none++
		case len(a) == len(b) && x != plainInput(plainHead(sum, a[:len(a)-1]), a[len(a)-1]):
			deep++
		default:
			last++
		}
	}
	if last < 500 || deep < 500 || none < 500 {
		t.Errorf("%d times the last ones, %d times those ahead, %d times nothing", last, deep, none)
	}
}

// P4.2: by one sum for all: of several unlike bodies the last ones are told; rows of other lengths are held against each other from their ends on.
func TestDifferByOneSum(t *testing.T) {
	sum := weak(1)
	w := sum("")
	for n := 1; n <= 9; n++ {
		for i := range n {
			a, b := bodies(n), bodies(n)
			for j := range i + 1 {
				b[j] = "other"
			}
			prev := w
			if i == 0 {
				prev = ""
			}
			if x, y, is := differ(sum, a, b); x != plainInput(prev, a[i]) || y != plainInput(prev, "other") || !is {
				t.Errorf("%d up to %d: %x, %x, %t", n, i, x, y, is)
			}
		}
		x, y, is := differ(sum, bodies(n), bodies(n))
		wantNothing(t, "the same rows", x, y, is)
		x, y, is = differ(sum, nil, bodies(n))
		wantNothing(t, "no body in the first one", x, y, is)
		x, y, is = differ(sum, bodies(n), nil)
		wantNothing(t, "no body in the second one", x, y, is)
	}
	if x, y, is := differ(sum, []string{"a"}, []string{"b", "a"}); x != "\x03\x00\x01a" || y != "\x03\x20"+w+"\x01a" || !is {
		t.Errorf("the second one longer: %x, %x, %t", x, y, is)
	}
	if x, y, is := differ(sum, []string{"c", "b", "a"}, []string{"b", "a"}); x != "\x03\x20"+w+"\x01b" || y != "\x03\x00\x01b" || !is {
		t.Errorf("the first one longer: %x, %x, %t", x, y, is)
	}
}

// P4.2: unlike inputs of unlike sums end the search, though those ahead of them have one sum.
func TestDifferStopsAtTheFirstUnlike(t *testing.T) {
	two := func(s string) string {
		if strings.HasSuffix(s, "\x01z") {
			return strings.Repeat("z", api.Digest)
		}
		return strings.Repeat("w", api.Digest)
	}
	x, y, is := differ(two, []string{"a", "z"}, []string{"b", "y"})
	wantNothing(t, "unlike sums of the last ones", x, y, is)
	if x, y, is := differ(two, []string{"a", "z"}, []string{"b", "z"}); x != "\x03\x00\x01a" || y != "\x03\x00\x01b" || !is {
		t.Errorf("the last ones the same: %x, %x, %t", x, y, is)
	}
}

// P4.3: Links are checked by the Head.
func TestLinksAreChecked(t *testing.T) {
	for many := range 60 {
		l := bodies(many)
		wantCheck(t, "Links by the Head", chained(t, l), head(t, l), api.OK)
	}
	l := []string{filler(250), filler(251), filler(api.MaxText), "", filler(api.MaxText)}
	wantCheck(t, "long bodies", chained(t, l), head(t, l), api.OK)
}

// P4.3: by weak sums: two unlike rows of as many bodies and of one Head give two unlike texts of one sum.
func TestWhatIsFalseComesToLight(t *testing.T) {
	r := rand.New(rand.NewSource(2))
	some := 0
	for range 20000 {
		sum := weak(1 + r.Intn(5))
		a, b := someRows(r)
		if len(a) != len(b) || slices.Equal(a, b) || plainHead(sum, a) != plainHead(sum, b) {
			continue
		}
		some++
		if x, y, is := differ(sum, a, b); !is || x == y || sum(x) != sum(y) {
			t.Fatalf("%q, %q: %x, %x, %t", a, b, x, y, is)
		}
	}
	if some < 1000 {
		t.Errorf("only %d rows", some)
	}
}

// P4.3: a row with one more body has the links of the one ahead, and one more, whose Prev is the Head ahead.
func TestOneMoreBody(t *testing.T) {
	for many := range 40 {
		l := bodies(many + 1)
		x, y := chained(t, l[:many]), chained(t, l)
		if !slices.Equal(y, append(x, api.Link{Prev: head(t, l[:many]), Body: l[many]})) {
			t.Errorf("%d and one more: %x", many, y)
		}
		want, e := Next(head(t, l[:many]), l[many])
		if e != api.OK || head(t, l) != want {
			t.Errorf("the Head of %d and one more: %x, %d", many, want, e)
		}
	}
}

// R3, R4: what is handed in stays, what came out is nobody else's, and the same is answered again.
func TestNothingIsKept(t *testing.T) {
	l := bodies(6)
	h, x := head(t, l), chained(t, l)
	kept := slices.Clone(x)
	wantCheck(t, "first", x, h, api.OK)
	Differ(l, l)
	Differ(l, l[:3])
	if !slices.Equal(l, bodies(6)) || !slices.Equal(x, kept) {
		t.Error("a call wrote into what was handed in")
	}
	for i := range l {
		l[i] = ""
	}
	if !slices.Equal(x, kept) {
		t.Error("links changed with their bodies' row")
	}
	y := chained(t, bodies(6))
	for i := range x {
		x[i] = api.Link{}
	}
	if !slices.Equal(y, kept) || !slices.Equal(chained(t, bodies(6)), kept) || head(t, bodies(6)) != h {
		t.Error("what came out hangs on another call")
	}
}
