package blake

import (
	"math"
	"strings"
	"testing"

	"cartouche/api"
)

// The sums and words below were reckoned by other programs: sums by CPython's hashlib, single blocks by the algorithm of RFC 7693 written out anew.

func filler(n int) string {
	b := make([]byte, n)
	for i := range b {
		b[i] = byte(i*7 + n)
	}
	return string(b)
}

func keyed(t *testing.T, key, s string) string {
	t.Helper()
	sum, e := Keyed(key, s)
	if e != api.OK {
		t.Fatalf("Keyed(%d bytes, %d bytes): %d", len(key), len(s), e)
	}
	return sum
}

func block(t *testing.T, h [8]uint32, b string, at uint64, last bool) [8]uint32 {
	t.Helper()
	h, e := Block(h, b, at, last)
	if e != api.OK {
		t.Fatalf("Block(%d bytes): %d", len(b), e)
	}
	return h
}

// plainBytes are words as bytes, by the document's words.
func plainBytes(h [8]uint32) string {
	var b []byte
	for _, w := range h {
		b = append(b, byte(w), byte(w>>8), byte(w>>16), byte(w>>24))
	}
	return string(b)
}

// byBlocks is the sum that Start and Block make of a text, by the document's words.
func byBlocks(t *testing.T, key, s string) string {
	t.Helper()
	h, e := Start(len(key))
	if e != api.OK {
		t.Fatalf("Start(%d): %d", len(key), e)
	}
	if key != "" {
		s = key + strings.Repeat("\x00", 64-len(key)) + s
	}
	at := uint64(0)
	for len(s) > 64 {
		at += 64
		h = block(t, h, s[:64], at, false)
		s = s[64:]
	}
	at += uint64(len(s))
	return plainBytes(block(t, h, s+strings.Repeat("\x00", 64-len(s)), at, true))
}

// P2.1: the beginning, with how long the key is.
func TestStart(t *testing.T) {
	for key := 0; key <= 32; key++ {
		want := [8]uint32{0x6a09e667 ^ 0x01010020 ^ uint32(key)<<8, 0xbb67ae85, 0x3c6ef372, 0xa54ff53a, 0x510e527f, 0x9b05688c, 0x1f83d9ab, 0x5be0cd19}
		if h, e := Start(key); h != want || e != api.OK {
			t.Errorf("Start(%d): %x, %d", key, h, e)
		}
	}
}

// P2.1: no key is shorter than none or longer than 32 bytes.
func TestStartRefuses(t *testing.T) {
	for _, key := range []int{-1, -32, 33, 64, 255, 256, 1 << 24, 1 << 32, math.MinInt, math.MaxInt} {
		if h, e := Start(key); h != [8]uint32{} || e != api.ErrArg {
			t.Errorf("Start(%d): %x, %d", key, h, e)
		}
	}
}

// P2.1: a block by itself: all words of h, both halves of t, and the last one.
func TestBlock(t *testing.T) {
	zero := [8]uint32{}
	rise := [8]uint32{1, 2, 3, 4, 5, 6, 7, 8}
	full := [8]uint32{math.MaxUint32, math.MaxUint32, math.MaxUint32, math.MaxUint32, math.MaxUint32, math.MaxUint32, math.MaxUint32, math.MaxUint32}
	for _, c := range []struct {
		h    [8]uint32
		t    uint64
		last bool
		want [8]uint32
	}{
		{zero, 0x0, false, [8]uint32{0x48157fb8, 0x88c47825, 0x877c318b, 0x1646b35a, 0xcf2d5518, 0xfda42446, 0x98eded08, 0x8d888ba2}},
		{zero, 0x0, true, [8]uint32{0xbd72813c, 0x028e8a9e, 0x008bf1b5, 0xd80e1736, 0x2bf3b48c, 0x93cb5e25, 0xbb527db6, 0xa40d86f0}},
		{rise, 0x40, false, [8]uint32{0xb283bb73, 0xb70d6672, 0x8590214f, 0xb6c9d0bc, 0x7e22d828, 0x1cb6b3ea, 0xf147b330, 0x1d0f199b}},
		{rise, 0x40, true, [8]uint32{0x9cd603ee, 0x24ad2eda, 0xd48725f0, 0x39c00cf4, 0x040a5cca, 0xb5615c45, 0xae9e1e4b, 0xc16e1282}},
		{rise, 0xffffffff, false, [8]uint32{0xabaaa94a, 0xcafca3ba, 0xb20ee06e, 0xdb6f40d7, 0x135a1648, 0x2c4b0dcf, 0x7f1d42a0, 0x02fac085}},
		{rise, 0x100000000, false, [8]uint32{0x9a025a58, 0x1058408d, 0x542464c2, 0xee4941c7, 0x6557d098, 0x2a1ac63f, 0x97357b70, 0xf9624810}},
		{rise, 0x100000000, true, [8]uint32{0x09d3cae7, 0xb6bf1727, 0xc1b0f5d9, 0x7f6d96b1, 0x19c1d8f0, 0x7d828afa, 0x4f523722, 0x97f010d4}},
		{rise, 0x123456789abcdef, false, [8]uint32{0xdafeb094, 0x3702defa, 0x0a3a580d, 0xb6688ba5, 0x93061bdd, 0x490bc551, 0xa9c066ff, 0x16514330}},
		{full, 0x123456789abcdef, true, [8]uint32{0xdb23ede5, 0xdb418a67, 0x8ffcf928, 0x7a6bdc7d, 0x9a553613, 0xc9abb46d, 0xc34e8fb4, 0xf281c764}},
		{full, math.MaxUint64, false, [8]uint32{0x8e639efa, 0xd243dbf7, 0x6f59835c, 0x841c6f9d, 0x4db5d229, 0x0fb64cf9, 0x81d5f4f9, 0xa44c7cb1}},
		{full, math.MaxUint64, true, [8]uint32{0x4dea32b1, 0x641bb453, 0x00b54467, 0x49210528, 0x441f3a9f, 0x05907ab8, 0x36ae8623, 0xe24b8ff0}},
	} {
		if h := block(t, c.h, filler(64), c.t, c.last); h != c.want {
			t.Errorf("Block(%x, %x, %t): %x, want %x", c.h, c.t, c.last, h, c.want)
		}
	}
}

// P2.1: a block has 64 bytes.
func TestBlockRefuses(t *testing.T) {
	h := [8]uint32{1, 2, 3, 4, 5, 6, 7, 8}
	for _, n := range []int{0, 1, 32, 63, 65, 128, 1 << 16} {
		for _, last := range []bool{false, true} {
			if got, e := Block(h, filler(n), uint64(n), last); got != [8]uint32{} || e != api.ErrArg {
				t.Errorf("Block of %d bytes, %t: %x, %d", n, last, got, e)
			}
		}
	}
}

// P2.2: sums, at lengths beside those of whole blocks.
func TestSum(t *testing.T) {
	for _, c := range []struct{ s, want string }{
		{"abc", "508c5e8c327c14e2e1a72ba34eeb452f37458b209ed63a294d999b4c86675982"},
		{"", "69217a3079908094e11121d042354a7c1f55b6482ca1a51e1b250dfd1ed0eef9"},
		{filler(1), "fc87f4f1d721942d282aa61989c069b290d1447d20d4b811430f47ea0edf9991"},
		{filler(63), "5c9eb3e5acf93799a68777f27cdde8e90cb16d511b7983a875ac5dbfa8aca778"},
		{filler(64), "85de17b4e2581889b98b948346a970b5291b5d2a2a8ee75b1aa2bbb02b98b211"},
		{filler(65), "1c1a9619a26d7cd550199567e5c316eb3db33d96c29790a6c68ba7f1ee8a8803"},
		{filler(127), "440d16085a6e3685c5cbc450b56cb4cb71a3f707e5eae0d4ca18715a41583fc7"},
		{filler(128), "46bf7abf397f8c8f86566279cba2505c9d255be7409760dc327ae520faaf356a"},
		{filler(129), "030e44da1226be0765e3ff31a849aca32cb20222ac3dc32ff10670dc95b22534"},
		{filler(1000), "802d01c1238627f67baee29885006cfaab1f07890532935a1ae9354d318df150"},
	} {
		if got := Hex(Sum(c.s)); got != c.want {
			t.Errorf("Sum of %d bytes: %s, want %s", len(c.s), got, c.want)
		}
	}
}

// P2.2: the sums of all short texts, told by one sum.
func TestSumOfSums(t *testing.T) {
	var all strings.Builder
	for n := range 301 {
		all.WriteString(Sum(filler(n)))
	}
	if got := Hex(Sum(all.String())); got != "655aed21c64702b601bdab9d6ce353703af8a35b106496e5a156b03d503e8e41" {
		t.Error(got)
	}
}

// P2.2: sums with keys, the shortest and the longest ones among them.
func TestKeyed(t *testing.T) {
	for _, c := range []struct {
		key, n int
		want   string
	}{
		{1, 0, "29f9691fe445d12f36b171eb231c99a00f62c0ba9c618b5ab67535c24eab67fe"},
		{1, 1, "4d22b8c3310a73ff46d402d850769c2f92300e788b5fc1cdf7fd2c092f4e6d7c"},
		{5, 129, "eace5ea245d8ffd95b1097905898b09b53da2474b1458d10db4a68bb9b41aff6"},
		{31, 64, "fc2543ecb7d694370796b79df07c35dc2b0decae3be1b9a5d1373f0a530936a4"},
		{32, 0, "7c557fe024222cab9c163db9ce9053cd99f16f69abda4a8de29e375382b577fc"},
		{32, 63, "c20790ddb0a97f01db4c1b9ca92973953301a4d62f417c3bc1bc20ec9c8bb056"},
		{32, 64, "10b74e05ba64593748614d4a207b95644e54354dae1e2c5397579744f0d14ea5"},
		{32, 65, "f79570666191a280ffe9f8a58d4e0bd88cea05a5d799c7f52895b766bdd0a740"},
		{32, 128, "670d7216b19252ea5ac25fee8f20d6a1694ed31ba4510bc7bb0fe9b7978e1116"},
	} {
		if got := Hex(keyed(t, filler(c.key), filler(c.n))); got != c.want {
			t.Errorf("Keyed(%d bytes, %d bytes): %s, want %s", c.key, c.n, got, c.want)
		}
	}
}

// P2.2: the sums with all lengths of keys, told by one sum.
func TestKeyedSumOfSums(t *testing.T) {
	var all strings.Builder
	for k := 1; k <= 32; k++ {
		for n := range 200 {
			all.WriteString(keyed(t, filler(k), filler(n)))
		}
	}
	if got := Hex(Sum(all.String())); got != "feca226490feb082c618ace365ef3f5f34fe1913eaaf487f10821b4088cce17a" {
		t.Error(got)
	}
}

// P2.2: a key is not its noughts: how long it is counts.
func TestKeyedTellsKeysApart(t *testing.T) {
	if keyed(t, "k", "a") == keyed(t, "k\x00", "a") {
		t.Error("a nought behind the key makes no difference")
	}
	if keyed(t, "\x00", "") == Sum(strings.Repeat("\x00", 64)) {
		t.Error("a key of noughts is no key")
	}
}

// P2.2: a key has 1 to 32 bytes.
func TestKeyedRefuses(t *testing.T) {
	for _, n := range []int{0, 33, 64, 65, 256, 1 << 16} {
		for _, s := range []string{"", "a", filler(64), filler(200)} {
			if sum, e := Keyed(filler(n), s); sum != "" || e != api.ErrArg {
				t.Errorf("Keyed(%d bytes, %d bytes): %q, %d", n, len(s), sum, e)
			}
		}
	}
}

// P2.2: every byte in two figures.
func TestHex(t *testing.T) {
	if got := Hex(""); got != "" {
		t.Errorf("Hex of nothing: %q", got)
	}
	if got := Hex("\x00\x01\x09\x0a\x0f\x10\x9f\xa0\xfe\xff"); got != "0001090a0f109fa0feff" {
		t.Error(got)
	}
	const figures = "0123456789abcdef"
	var all []byte
	want := ""
	for i := range 256 {
		all = append(all, byte(i))
		want += figures[i/16:i/16+1] + figures[i%16:i%16+1]
	}
	if got := Hex(string(all)); got != want {
		t.Error(got)
	}
}

// P2.3: a sum has 32 bytes, and is what Block makes of the text, block by block.
func TestSumIsByBlocks(t *testing.T) {
	for _, n := range []int{0, 1, 3, 31, 32, 33, 63, 64, 65, 127, 128, 129, 191, 192, 193, 1 << 12, 1<<16 + 1} {
		s := filler(n)
		if got := Sum(s); len(got) != api.Digest || got != byBlocks(t, "", s) {
			t.Errorf("Sum of %d bytes: %x", n, got)
		}
		for _, k := range []int{1, 2, 16, 31, 32} {
			if got := keyed(t, filler(k), s); len(got) != api.Digest || got != byBlocks(t, filler(k), s) {
				t.Errorf("Keyed(%d bytes, %d bytes): %x", k, n, got)
			}
		}
	}
}

// R4: the same is answered again, whatever was asked between.
func TestNothingIsKept(t *testing.T) {
	h, first := [8]uint32{1}, Sum("abc")
	block(t, h, filler(64), 64, true)
	keyed(t, "key", "abc")
	if h != [8]uint32{1} || Sum("abc") != first {
		t.Error("a call changed what another one is answered")
	}
	if a, _ := Start(0); a[0] != 0x6a09e667^0x01010020 {
		t.Errorf("Start(0) anew: %x", a)
	}
}
