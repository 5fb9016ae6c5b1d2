package tree

import (
	"math"
	"math/rand"
	"slices"
	"strings"
	"testing"

	"cartouche/api"
	"cartouche/blake"
)

// The roots and paths below in figures were reckoned by another program, from CPython's hashlib and the document's words.

func filler(n int) string {
	b := make([]byte, n)
	for i := range b {
		b[i] = byte(i*7 + n)
	}
	return string(b)
}

func texts(n int) []string {
	l := make([]string, n)
	for i := range l {
		l[i] = filler(i * 37 % 101)
	}
	return l
}

func root(t *testing.T, l []string) string {
	t.Helper()
	r, e := Root(l)
	if e != api.OK {
		t.Fatalf("Root of %d: %d", len(l), e)
	}
	return r
}

func path(t *testing.T, l []string, i int) []string {
	t.Helper()
	p, e := Path(l, i)
	if e != api.OK {
		t.Fatalf("Path of %d at %d: %d", len(l), i, e)
	}
	return p
}

func wantNothing(t *testing.T, what string, a, b string, is bool) {
	t.Helper()
	if a != "" || b != "" || is {
		t.Errorf("%s: %x, %x, %t", what, a, b, is)
	}
}

// weak gives a sum of 32 bytes by which many unlike texts have the same one.
func weak(many int) func(string) string {
	return func(s string) string {
		n := len(s)
		for i := range len(s) {
			n = n*31 + int(s[i])
			n %= 1 << 20
		}
		return strings.Repeat("w", api.Digest-1) + string([]byte{byte(n % many)})
	}
}

// plainNum are the bytes of a number up to MaxLeaves.
func plainNum(n int) string {
	switch {
	case n == 0:
		return "\x00"
	case n < 256:
		return string([]byte{1, byte(n)})
	}
	return string([]byte{2, byte(n / 256), byte(n % 256)})
}

func plainHalf(n int) int {
	k := 1
	for k*2 < n {
		k *= 2
	}
	return k
}

// plainInput is the crown's, by the document's words.
func plainInput(sum func(string) string, l []string) string {
	if len(l) == 1 {
		return "\x00" + l[0]
	}
	k := plainHalf(len(l))
	return "\x01" + sum(plainInput(sum, l[:k])) + sum(plainInput(sum, l[k:]))
}

func plainRoot(sum func(string) string, l []string) string {
	s := "\x02" + plainNum(len(l))
	if len(l) > 0 {
		s += sum(plainInput(sum, l))
	}
	return s
}

// plainPath is Path by any sum, by the document's words.
func plainPath(sum func(string) string, l []string, i int) []string {
	if len(l) == 1 {
		return nil
	}
	k := plainHalf(len(l))
	if i < k {
		return append(plainPath(sum, l[:k], i), sum(plainInput(sum, l[k:])))
	}
	return append(plainPath(sum, l[k:], i-k), sum(plainInput(sum, l[:k])))
}

// plainRights tells of each side of the way of i of n whether it is the right one.
func plainRights(n, i int) []bool {
	if n == 1 {
		return nil
	}
	k := plainHalf(n)
	if i < k {
		return append(plainRights(k, i), true)
	}
	return append(plainRights(n-k, i-k), false)
}

// plainClimb is Climb by any sum, of a path that fits.
func plainClimb(sum func(string) string, n, i int, s string, path []string) []string {
	all := []string{"\x00" + s}
	for at, right := range plainRights(n, i) {
		x := sum(all[len(all)-1])
		if right {
			all = append(all, "\x01"+x+path[at])
		} else {
			all = append(all, "\x01"+path[at]+x)
		}
	}
	return append(all, "\x02"+plainNum(n)+sum(all[len(all)-1]))
}

// plainClash is Clash by any sum, of paths that fit.
func plainClash(sum func(string) string, n, i int, a string, p []string, b string, q []string) (string, string, bool) {
	x, y := plainClimb(sum, n, i, a, p), plainClimb(sum, n, i, b, q)
	for k := len(x) - 1; k >= 0; k-- {
		if x[k] != y[k] && sum(x[k]) == sum(y[k]) {
			return x[k], y[k], true
		} else if x[k] != y[k] {
			break
		}
	}
	return "", "", false
}

// plainDiffer is Differ by any sum, by the document's words.
func plainDiffer(sum func(string) string, a, b []string) (string, string, bool) {
	x, y := plainRoot(sum, a), plainRoot(sum, b)
	if x != y && sum(x) == sum(y) {
		return x, y, true
	} else if x != y || len(a) == 0 {
		return "", "", false
	}
	return plainCrowns(sum, a, b)
}

func plainCrowns(sum func(string) string, a, b []string) (string, string, bool) {
	x, y := plainInput(sum, a), plainInput(sum, b)
	if x != y && sum(x) == sum(y) {
		return x, y, true
	} else if len(a) == 1 {
		return "", "", false
	}
	k := plainHalf(len(a))
	if x, y, is := plainCrowns(sum, a[:k], b[:k]); is {
		return x, y, is
	}
	return plainCrowns(sum, a[k:], b[k:])
}

// P3.1: a leaf's and a node's sums, of texts of any length.
func TestLeafAndNode(t *testing.T) {
	a, b := blake.Sum("a"), blake.Sum("b")
	for _, c := range []struct{ what, got, want string }{
		{"leaf of nothing", Leaf(""), "e34d74dbaf4ff4c6abd871cc220451d2ea2648846c7757fbaac82fe51ad64bea"},
		{"leaf", Leaf("abc"), "e6200e7fe53193069410114007a8fbd733ca99c7afb8e34b3a3170dce7d567f0"},
		{"long leaf", Leaf(filler(1000)), "3ed916eb4585a72b3b2f580dcfb991aaeb33dcbeaa9a9b4f6e9769f3bccb1f3c"},
		{"node of nothing", Node("", ""), "fc87f4f1d721942d282aa61989c069b290d1447d20d4b811430f47ea0edf9991"},
		{"node of no sums", Node("a", "b"), "5bfa44b0e0d5d82bec38266668d39a3d583f400b585dee60ccfe3806ace43386"},
		{"node", Node(a, b), "8a63aa312460e37eff190c4d5e07c8ecccdbbc4e91cd5294ce740785eba2002e"},
	} {
		if got := blake.Hex(c.got); got != c.want {
			t.Errorf("%s: %s, want %s", c.what, got, c.want)
		}
	}
	if Node(a, b) == Node(b, a) || Leaf(a+b) == Node(a, b) {
		t.Error("sides, or leaves and nodes, aren't told apart")
	}
}

// P3.1: roots, at counts beside powers of two and up to the greatest one.
func TestRoot(t *testing.T) {
	for _, c := range []struct {
		n    int
		want string
	}{
		{0, "c3821dfd59935c0de0126c7d5480b933f9e6019b19c1ce7973e8bfd35d02cf6c"},
		{1, "5262f8e60127b09e247e66260b3ed19bec8493327b49a803954724745562cf93"},
		{2, "f7115ebeca1725126413a4da0f46dac8f737b79848ce0c2a982f77ee59927358"},
		{3, "bf9ed83cc958d97074fdb49f0eef41e88f3813d17372885016b97016aa307287"},
		{4, "42c5b829ca572b1fc0b12ebd80c57fed7de84afe768a78affa49f1a1dd3cc2bb"},
		{5, "41d2e015efe4140ce00a0f2e6a8b4687d4b765147ed9f0111f23f4bf7ec1a9f0"},
		{6, "7dc8c6cd099afd464f84660ebda2b8759580c63b2101a20103ad82eb6d277ea9"},
		{7, "defea85772c92508b3dd10c2f5ecf061253aae0b8a7055d976a441ede292c005"},
		{8, "a96b6f06f7a8791b2797c9de9badc449cb7174294cd41ca6ccb853c2ab6cea4a"},
		{9, "90e65ed13d332c94da4ee420cc2e8bb9d78a5cfbcf650d46f2ebd080d1488cb2"},
		{255, "e4f32fcb6ee03cb6d13c7d90a089d251e3cbca62a201638ff9aa8a5311ffa4f3"},
		{256, "0dcfd89a0b15113dc644262d815d49a1a7cae2d595768ce51ad408ca7db68994"},
		{257, "067870b388dccdcedd91ce780f5d5bb8f4a32121bb84bf6121e675f0a39f4c60"},
		{4095, "e4d975ac276a62c7d87d1059d11a60ff1e3a3a4fa537c6d836efb94bb5069d0b"},
		{4096, "129e02789e88d027dda15bec96cb8d546bcdf9949c7f717cc6b8e7903c8398d0"},
	} {
		if got := blake.Hex(root(t, texts(c.n))); got != c.want {
			t.Errorf("Root of %d: %s, want %s", c.n, got, c.want)
		}
	}
	if root(t, nil) != root(t, []string{}) {
		t.Error("no list and an empty one have two roots")
	}
}

// P3.1: the roots of all short rows, told by one sum.
func TestRootSumOfSums(t *testing.T) {
	all := ""
	for n := range 131 {
		all += root(t, texts(n))
	}
	if got := blake.Hex(blake.Sum(all)); got != "bc1a922ac98e0211c823a9d026754d1a846e88a1fc76b632ca55510b26556313" {
		t.Error(got)
	}
}

// P3.1: paths: how many sums they have, and which.
func TestPath(t *testing.T) {
	for _, c := range []struct {
		n, i, many int
		want       string
	}{
		{1, 0, 0, "69217a3079908094e11121d042354a7c1f55b6482ca1a51e1b250dfd1ed0eef9"},
		{2, 0, 1, "a46f32b376f0c170b0f95a37be5c9a8803b9cb37f09fc00479ec046cbe3d069c"},
		{2, 1, 1, "4f3ac8d1e747d2f46da2fef81f51cad8be2664acec4b30926083d11b7c811c6c"},
		{3, 0, 2, "472f7a5342a6aa3d8fa90477c7ca44d63d88ccbc510e245c78038650b8cfdd61"},
		{3, 1, 2, "20d738fa6f174325e10eb4551e2e71cd4e1f6f3c0cd18016a50a091e2fe203e7"},
		{3, 2, 1, "6f14ca44b85a2fd44bcf07e692315461bd3aa60eae1771113572880dd1a53114"},
		{5, 4, 1, "ffb44cfd6e9e6feb4bd33b8ac9de3b4f1adee36b91e1e4fb86081ce6375d7c9e"},
		{5, 0, 3, "02f56c7f9b26c74cf2c9aaf527522ac7262624388aff143d07b272750b400b89"},
		{7, 6, 2, "5dc8386d9d15dcab8c9229307d6796610f4da7cde879528d40a2e872352b0b32"},
		{7, 4, 3, "8d97aad58fae1d2f7eb85fcdccf23aa2783d1b1b6bcaa3596c0216afac7108bc"},
		{8, 5, 3, "0626a702c800f880052170ed9dfcf359c46261b90454c66d48e8992f3f1be80c"},
		{2049, 2048, 1, "3b273907e4cd8db13354d1e19d6b878333c9cdbaa7ce7d2f3e4de633b275d11e"},
		{3000, 2999, 9, "f7b22b5e112c226114b8e44bd8eff4db8fd96914f66cbeded062ca85d068c832"},
		{4095, 4094, 11, "9cf95fb003fdca563f70a5fad8bcb5eb2a1afe6550c9119c9f75b95879a3fe44"},
		{4096, 0, 12, "cfb07a917647c9ba91fb2794439608c6988d6c86879ac4dcc368e79502a9e241"},
		{4096, 2731, 12, "875a0395248090ec8a1528d1c703d9515a6f683d27f6a6d6a1d33dbc1a367eca"},
		{4096, 4095, 12, "cf1895b2890a0b05e61ff137134322237f2ab6f988852ffc2fa7a1d7af626ad3"},
	} {
		p := path(t, texts(c.n), c.i)
		if got := blake.Hex(blake.Sum(strings.Join(p, ""))); len(p) != c.many || got != c.want {
			t.Errorf("Path of %d at %d: %d sums, %s, want %d, %s", c.n, c.i, len(p), got, c.many, c.want)
		}
	}
}

// P3.1: the paths of all places of all short rows, told by one sum.
func TestPathSumOfSums(t *testing.T) {
	all := ""
	for n := 1; n <= 70; n++ {
		for i := range n {
			all += strings.Join(path(t, texts(n), i), "")
		}
	}
	if got := blake.Hex(blake.Sum(all)); got != "032144359e96be227b60a46e9be4cfce39bbf4533589ab6a13a48f53be2e1066" {
		t.Error(got)
	}
}

// P3.1: too many texts, ahead of a place that is none; and no places.
func TestRootAndPathRefuse(t *testing.T) {
	for _, n := range []int{api.MaxLeaves + 1, api.MaxLeaves + 2, 2 * api.MaxLeaves, 1 << 17} {
		l := make([]string, n)
		if r, e := Root(l); r != "" || e != api.ErrBig {
			t.Errorf("Root of %d: %x, %d", n, r, e)
		}
		for _, i := range []int{math.MinInt, -1, 0, n - 1, n, math.MaxInt} {
			if p, e := Path(l, i); len(p) != 0 || e != api.ErrBig {
				t.Errorf("Path of %d at %d: %x, %d", n, i, p, e)
			}
		}
	}
	for _, n := range []int{0, 1, 2, 3, 7, 8, api.MaxLeaves} {
		for _, i := range []int{math.MinInt, -1, n, n + 1, api.MaxLeaves, math.MaxInt} {
			if p, e := Path(make([]string, n), i); len(p) != 0 || e != api.ErrArg {
				t.Errorf("Path of %d at %d: %x, %d", n, i, p, e)
			}
		}
	}
}

// P3.2: all inputs, at all places of short rows, and at the edges of the longest one.
func TestClimb(t *testing.T) {
	try := func(n, i int, s string) {
		p := make([]string, len(plainRights(n, i)))
		for at := range p {
			p[at] = blake.Sum(filler(at + i))
		}
		got, e := Climb(n, i, s, p)
		if want := plainClimb(blake.Sum, n, i, s, p); !slices.Equal(got, want) || e != api.OK {
			t.Errorf("Climb(%d, %d): %x, %d, want %x", n, i, got, e, want)
		}
	}
	for n := 1; n <= 40; n++ {
		for i := range n {
			try(n, i, filler(n+i))
		}
	}
	for _, n := range []int{255, 256, 257, 4095, 4096} {
		for _, i := range []int{0, 1, n / 3, n / 2, n - 2, n - 1} {
			try(n, i, "")
		}
	}
}

// P3.2: of one text the leaf's input and the root's; of three those of a place in the middle.
func TestClimbOfFew(t *testing.T) {
	if x, e := Climb(1, 0, "a", nil); e != api.OK || !slices.Equal(x, []string{"\x00a", "\x02\x01\x01" + Leaf("a")}) {
		t.Errorf("%x, %d", x, e)
	}
	p, q := blake.Sum("p"), blake.Sum("q")
	want := []string{"\x00b", "\x01" + p + Leaf("b"), "\x01" + Node(p, Leaf("b")) + q, "\x02\x01\x03" + Node(Node(p, Leaf("b")), q)}
	if x, e := Climb(3, 1, "b", []string{p, q}); e != api.OK || !slices.Equal(x, want) {
		t.Errorf("%x, %d", x, e)
	}
}

// P3.2: counts and places that are none, whatever the path is.
func TestClimbRefusesPlaces(t *testing.T) {
	sums := []string{blake.Sum("a"), blake.Sum("b")}
	for _, c := range []struct{ n, i int }{
		{0, 0}, {0, -1}, {-1, 0}, {-1, -2}, {math.MinInt, 0}, {math.MinInt, math.MinInt},
		{1, 1}, {1, -1}, {3, 3}, {3, -1}, {3, math.MinInt}, {3, math.MaxInt},
		{api.MaxLeaves, api.MaxLeaves}, {api.MaxLeaves + 1, 0}, {api.MaxLeaves + 1, api.MaxLeaves}, {math.MaxInt, 0}, {math.MaxInt, math.MaxInt - 1}, {math.MaxInt, math.MaxInt},
	} {
		for _, p := range [][]string{nil, sums[:1], sums, {"short"}} {
			if x, e := Climb(c.n, c.i, "a", p); len(x) != 0 || e != api.ErrArg {
				t.Errorf("Climb(%d, %d): %x, %d", c.n, c.i, x, e)
			}
			if e := Check(sums[0], c.n, c.i, "a", p); e != api.ErrArg {
				t.Errorf("Check(%d, %d): %d", c.n, c.i, e)
			}
			a, b, is := Clash(c.n, c.i, "a", p, "b", p)
			wantNothing(t, "Clash at no place", a, b, is)
		}
	}
}

// P3.2: paths that are too short, too long, or of texts that are no sums.
func TestClimbRefusesPaths(t *testing.T) {
	refused := func(n, i int, p []string) {
		t.Helper()
		if x, e := Climb(n, i, "a", p); len(x) != 0 || e != api.ErrProof {
			t.Errorf("Climb(%d, %d) by %d sums: %x, %d", n, i, len(p), x, e)
		}
		if e := Check("", n, i, "a", p); e != api.ErrProof {
			t.Errorf("Check(%d, %d) by %d sums: %d", n, i, len(p), e)
		}
	}
	for _, c := range []struct{ n, i int }{{1, 0}, {2, 0}, {2, 1}, {3, 0}, {3, 2}, {7, 3}, {7, 6}, {2049, 2048}, {4096, 4095}} {
		p := path(t, texts(c.n), c.i)
		refused(c.n, c.i, append(slices.Clone(p), blake.Sum("")))
		refused(c.n, c.i, append(slices.Clone(p), ""))
		refused(c.n, c.i, make([]string, 1000))
		if len(p) > 0 {
			refused(c.n, c.i, p[1:])
			refused(c.n, c.i, nil)
		}
		for at := range p {
			for _, s := range []string{"", "a", p[at][1:], p[at] + "a", p[at] + p[at]} {
				q := slices.Clone(p)
				q[at] = s
				refused(c.n, c.i, q)
			}
		}
	}
}

// P3.2: another root, text, place or sum than the one that was proved.
func TestCheckRefuses(t *testing.T) {
	for _, n := range []int{1, 2, 3, 4, 7, 8, 13} {
		l := texts(n)
		r := root(t, l)
		for i := range n {
			p := path(t, l, i)
			for _, wrong := range []string{"", r[:31], r + "\x00", blake.Sum(r), Leaf(l[i]), "\x00" + r[1:] + "\x00"} {
				if e := Check(wrong, n, i, l[i], p); e != api.ErrRoot {
					t.Errorf("%d at %d, another root: %d", n, i, e)
				}
			}
			if e := Check(r, n, i, l[i]+"\x00", p); e != api.ErrRoot {
				t.Errorf("%d at %d, another text: %d", n, i, e)
			}
			for at := range p {
				q := slices.Clone(p)
				q[at] = blake.Sum(q[at])
				if e := Check(r, n, i, l[i], q); e != api.ErrRoot {
					t.Errorf("%d at %d, another sum: %d", n, i, e)
				}
			}
			for j := range n {
				if e := Check(r, n, j, l[i], p); j != i && e != api.ErrRoot && e != api.ErrProof {
					t.Errorf("%d at %d for %d: %d", n, i, j, e)
				}
			}
			if e := Check(r, n+1, i, l[i], p); e == api.OK {
				t.Errorf("%d at %d, another count: %d", n, i, e)
			}
		}
	}
	// A node's input as a text of a shorter row: other first bytes, another count.
	l := texts(4)
	if e := Check(root(t, l), 2, 0, "\x01"+Leaf(l[0])+Leaf(l[1]), path(t, l, 0)[1:]); e != api.ErrRoot {
		t.Errorf("a node as a leaf: %d", e)
	}
}

// P3.3: by sums of which no two unlike texts are known nothing comes to light.
func TestClashGivesNothing(t *testing.T) {
	for _, n := range []int{1, 2, 3, 6, 7, 64} {
		l := texts(n)
		for i := range n {
			p := path(t, l, i)
			a, b, is := Clash(n, i, l[i], p, l[i], p)
			wantNothing(t, "the same twice", a, b, is)
			a, b, is = Clash(n, i, l[i], p, l[i]+"z", p)
			wantNothing(t, "two roots", a, b, is)
			long := append(slices.Clone(p), p...)
			long = append(long, blake.Sum(""))
			a, b, is = Clash(n, i, l[i], p, "z", long)
			wantNothing(t, "the second one isn't to be climbed", a, b, is)
			a, b, is = Clash(n, i, "z", long, l[i], p)
			wantNothing(t, "the first one isn't to be climbed", a, b, is)
			a, b, is = Clash(n, i, "z", long, "z", long)
			wantNothing(t, "none is to be climbed", a, b, is)
		}
	}
}

// P3.3: by weak sums: the first two from the root's on, of two proofs of any kind.
func TestClashByWeakSums(t *testing.T) {
	r := rand.New(rand.NewSource(1))
	some, none := 0, 0
	for range 20000 {
		sum := weak(1 + r.Intn(5))
		n := 1 + r.Intn(9)
		i := r.Intn(n)
		p := make([]string, len(plainRights(n, i)))
		for at := range p {
			p[at] = sum(filler(r.Intn(9)))
		}
		q := slices.Clone(p)
		for at := range q {
			if r.Intn(4) == 0 {
				q[at] = sum(filler(r.Intn(9)))
			}
		}
		a, b := filler(r.Intn(6)), filler(r.Intn(6))
		x, y, is := clash(sum, n, i, a, p, b, q)
		u, v, want := plainClash(sum, n, i, a, p, b, q)
		if x != u || y != v || is != want {
			t.Fatalf("%d of %d: %x, %x, %t, want %x, %x, %t", i, n, x, y, is, u, v, want)
		}
		if is {
			some++
		} else {
			none++
		}
	}
	if some < 1000 || none < 1000 {
		t.Errorf("%d times something, %d times nothing", some, none)
	}
}

// P3.3: by one sum for all, what can't be climbed gives nothing, and what can gives the highest unlike ones.
func TestClashByOneSum(t *testing.T) {
	sum := weak(1)
	w := sum("")
	for _, c := range []struct {
		n, i int
		p, q []string
	}{
		{2, 2, []string{w}, []string{w}}, {0, 0, nil, nil}, {2, 0, []string{w}, nil}, {2, 0, nil, []string{w}},
		{2, 0, []string{w}, []string{"w"}}, {2, 0, []string{"w"}, []string{w}}, {api.MaxLeaves + 1, 0, nil, nil},
	} {
		a, b, is := clash(sum, c.n, c.i, "a", c.p, "b", c.q)
		wantNothing(t, "not to be climbed", a, b, is)
	}
	if a, b, is := clash(sum, 2, 0, "a", []string{w}, "b", []string{w}); a != "\x00a" || b != "\x00b" || !is {
		t.Errorf("two leaves: %x, %x, %t", a, b, is)
	}
	z := strings.Repeat("z", api.Digest)
	if a, b, is := clash(sum, 2, 1, "a", []string{w}, "b", []string{z}); a != "\x01"+w+w || b != "\x01"+z+w || !is {
		t.Errorf("two nodes: %x, %x, %t", a, b, is)
	}
}

// P3.3: by sums of which no two unlike texts are known nothing comes to light; nor of too many texts.
func TestDifferGivesNothing(t *testing.T) {
	big := make([]string, api.MaxLeaves+1)
	lists := [][]string{nil, {""}, {"a"}, {"a", ""}, texts(3), texts(4), texts(100), make([]string, api.MaxLeaves), big}
	for _, l := range lists {
		for _, m := range lists {
			a, b, is := Differ(l, m)
			wantNothing(t, "Differ", a, b, is)
		}
	}
	for _, l := range lists {
		a, b, is := differ(weak(1), l, big)
		wantNothing(t, "too many in the second one", a, b, is)
		a, b, is = differ(weak(1), big, l)
		wantNothing(t, "too many in the first one", a, b, is)
	}
}

// P3.3: by weak sums: the root's inputs, or the first two from the top on, the left halves ahead of the right ones.
func TestDifferByWeakSums(t *testing.T) {
	r := rand.New(rand.NewSource(2))
	marks := map[byte]int{}
	for range 20000 {
		sum := weak(1 + r.Intn(5))
		a := make([]string, r.Intn(10))
		for i := range a {
			a[i] = filler(r.Intn(6))
		}
		b := slices.Clone(a)
		if r.Intn(4) == 0 {
			b = make([]string, r.Intn(10))
		}
		for i := range b {
			if r.Intn(3) == 0 {
				b[i] = filler(r.Intn(6))
			}
		}
		x, y, is := differ(sum, a, b)
		u, v, want := plainDiffer(sum, a, b)
		if x != u || y != v || is != want {
			t.Fatalf("%q, %q: %x, %x, %t, want %x, %x, %t", a, b, x, y, is, u, v, want)
		}
		if is {
			marks[x[0]]++
		} else {
			marks[9]++
		}
	}
	for _, m := range []byte{0, 1, 2, 9} {
		if marks[m] < 100 {
			t.Errorf("kinds that came to light: %v", marks)
		}
	}
}

// P3.3: by one sum for all: other counts differ at the root, and of several unlike texts the first ones are told.
func TestDifferByOneSum(t *testing.T) {
	sum := weak(1)
	w := sum("")
	if a, b, is := differ(sum, []string{"a"}, []string{"a", "b"}); a != "\x02\x01\x01"+w || b != "\x02\x01\x02"+w || !is {
		t.Errorf("two counts: %x, %x, %t", a, b, is)
	}
	if a, b, is := differ(sum, nil, []string{"a"}); a != "\x02\x00" || b != "\x02\x01\x01"+w || !is {
		t.Errorf("none and one: %x, %x, %t", a, b, is)
	}
	for n := 1; n <= 20; n++ {
		for i := range n {
			l, m := texts(n), texts(n)
			for j := i; j < n; j++ {
				m[j] = "other"
			}
			if a, b, is := differ(sum, l, m); a != "\x00"+l[i] || b != "\x00other" || !is {
				t.Errorf("%d from %d on: %x, %x, %t", n, i, a, b, is)
			}
		}
	}
	a, b, is := differ(sum, texts(9), texts(9))
	wantNothing(t, "the same rows", a, b, is)
}

// P3.4: what Path tells Check takes.
func TestPathIsTaken(t *testing.T) {
	try := func(l []string, r string, i int) {
		if e := Check(r, len(l), i, l[i], path(t, l, i)); e != api.OK {
			t.Errorf("%d of %d: %d", i, len(l), e)
		}
	}
	for n := 1; n <= 40; n++ {
		l := texts(n)
		r := root(t, l)
		for i := range n {
			try(l, r, i)
		}
	}
	for _, n := range []int{255, 256, 257, 2049, 4095, 4096} {
		l := texts(n)
		r := root(t, l)
		for _, i := range []int{0, 1, n / 2, n - 2, n - 1} {
			try(l, r, i)
		}
	}
}

// P3.4: by weak sums: unlike texts that are taken at one place of one root, and unlike rows of one root, give two unlike texts of one sum.
func TestWhatIsFalseComesToLight(t *testing.T) {
	r := rand.New(rand.NewSource(3))
	proofs, rows := 0, 0
	for range 20000 {
		sum := weak(1 + r.Intn(5))
		a, b := make([]string, 1+r.Intn(9)), []string(nil)
		for i := range a {
			a[i] = filler(r.Intn(6))
		}
		b = slices.Clone(a)
		b[r.Intn(len(b))] = filler(6 + r.Intn(6))
		if sum(plainRoot(sum, a)) != sum(plainRoot(sum, b)) {
			continue
		}
		rows++
		if x, y, is := differ(sum, a, b); !is || x == y || sum(x) != sum(y) {
			t.Fatalf("Differ: %q, %q: %x, %x, %t", a, b, x, y, is)
		}
		for i := range a {
			if a[i] == b[i] {
				continue
			}
			proofs++
			x, y, is := clash(sum, len(a), i, a[i], plainPath(sum, a, i), b[i], plainPath(sum, b, i))
			if !is || x == y || sum(x) != sum(y) {
				t.Fatalf("Clash: %q, %q at %d: %x, %x, %t", a, b, i, x, y, is)
			}
		}
	}
	if proofs < 1000 || rows < 1000 {
		t.Errorf("%d proofs, %d rows", proofs, rows)
	}
}

// R3, R4: what is handed in stays, what came out is nobody else's, and the same is answered again.
func TestNothingIsKept(t *testing.T) {
	l := texts(7)
	r, p := root(t, l), path(t, l, 3)
	x, _ := Climb(7, 3, l[3], p)
	kept := slices.Clone(x)
	for i := range p {
		p[i] = ""
	}
	if !slices.Equal(x, kept) {
		t.Error("what was climbed changed with its path")
	}
	for i := range x {
		x[i] = ""
	}
	if !slices.Equal(l, texts(7)) || root(t, l) != r || Check(r, 7, 3, l[3], path(t, l, 3)) != api.OK {
		t.Error("a call changed what was handed in, or what another one is answered")
	}
	q := path(t, l, 3)
	Check(r, 7, 3, l[3], q)
	Clash(7, 3, "a", q, "b", q)
	Differ(l, l)
	if !slices.Equal(q, path(t, l, 3)) || !slices.Equal(l, texts(7)) {
		t.Error("a call wrote into what was handed in")
	}
}

// The sides of a way end where no more are asked for.
func TestSidesStop(t *testing.T) {
	for _, i := range []int{0, 5, 15} {
		for want := 1; want <= 4; want++ {
			many := 0
			for range sides(16, i) {
				many++
				if many == want {
					break
				}
			}
			if many != want {
				t.Errorf("%d: %d, want %d", i, many, want)
			}
		}
	}
}
