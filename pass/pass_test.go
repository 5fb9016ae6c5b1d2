package pass

import (
	"math"
	"math/rand"
	"strings"
	"testing"

	"cartouche/api"
	"cartouche/blake"
)

// The passes below in figures were reckoned by another program, from CPython's hashlib and the document's words.

func filler(n int) string {
	b := make([]byte, n)
	for i := range b {
		b[i] = byte(i*7 + n)
	}
	return string(b)
}

// times are those at the edges of how many bytes a number has.
func times() []uint64 {
	l := []uint64{0, 1, 5, 250, 251, math.MaxUint64 - 1, math.MaxUint64}
	for bits := 8; bits < 64; bits += 8 {
		l = append(l, 1<<bits-1, 1<<bits, 1<<bits+1)
	}
	return append(l, 1<<31, 1<<63-1, 1<<63)
}

// plainNum are a number's bytes, by the document's words.
func plainNum(v uint64) string {
	s := ""
	for ; v > 0; v /= 256 {
		s = string([]byte{byte(v % 256)}) + s
	}
	return string([]byte{byte(len(s))}) + s
}

// plainPass is one of a name of at most 250 bytes, with any seal.
func plainPass(tenant string, until uint64, seal string) string {
	return string([]byte{byte(len(tenant))}) + tenant + plainNum(until) + seal
}

// plainTake goes through all that a pass may be cut into.
func plainTake(s string) (string, uint64, string, bool) {
	for name := 1; name <= 16; name++ {
		for many := range 9 {
			if len(s) != 1+name+1+many+32 || int(s[0]) != name || int(s[1+name]) != many {
				continue
			}
			var until uint64
			for _, b := range []byte(s[2+name : 2+name+many]) {
				until = until*256 + uint64(b)
			}
			if plainNum(until) == s[1+name:2+name+many] {
				return s[1 : 1+name], until, s[len(s)-32:], true
			}
		}
	}
	return "", 0, "", false
}

func issued(t *testing.T, key, tenant string, until uint64) string {
	t.Helper()
	s, e := Issue(key, tenant, until)
	if e != api.OK {
		t.Fatalf("Issue of %x, %x, %d: %d", key, tenant, until, e)
	}
	return s
}

func wantTaken(t *testing.T, s, tenant string, until uint64, seal string) {
	t.Helper()
	if a, u, v, e := Take(s); a != tenant || u != until || v != seal || e != api.OK {
		t.Errorf("Take of %x: %x, %d, %x, %d", s, a, u, v, e)
	}
}

func wantNoForm(t *testing.T, what, s string) {
	t.Helper()
	if a, u, v, e := Take(s); a != "" || u != 0 || v != "" || e != api.ErrForm {
		t.Errorf("%s: Take of %.80x: %x, %d, %x, %d", what, s, a, u, v, e)
	}
	for _, key := range []string{"k", "", filler(33)} {
		wantCheck(t, what, key, s, 0, "", api.ErrForm)
		wantCheck(t, what, key, s, math.MaxUint64, "", api.ErrForm)
	}
}

func wantCheck(t *testing.T, what, key, s string, now uint64, tenant string, want api.Errno) {
	t.Helper()
	if a, e := Check(key, s, now); a != tenant || e != want {
		t.Errorf("%s: Check by %x of %.80x at %d: %x, %d, want %d", what, key, s, now, a, e, want)
	}
}

// P5.1: passes, at the edges of keys, names and times.
func TestIssue(t *testing.T) {
	for _, c := range []struct {
		key, tenant int
		until       uint64
		want        string
	}{
		{1, 1, 0, "010100a80bf3c85a84caf0dae9c466c4c3f2ffb29dc0fc9a5edde60e84ff98a2311e19"},
		{1, 1, 1, "01010101e05390f420ef3f07b58d9e13b401682345cbd709c2628e40b8c78368f3d597fc"},
		{1, 16, 255, "1010171e252c333a41484f565d646b727901ffdd7a3732fdb3e14335778a3ccd3fb072bb77299cb2d9fac99f3abb3bdf4adbce"},
		{31, 2, 256, "020209020100c9b33b212f65fb1a7ce8cca2c8cd5573fe72d7b425cd904ea35100f80baad761"},
		{32, 1, 65535, "010102ffff1072be902cc4750f00127ccc42783e0f7b45cb7ce5466365a81c31af12e0ccf2"},
		{32, 16, 65536, "1010171e252c333a41484f565d646b72790301000068836d9b93673eeeeb3162dad59d55213b930be3009b14e6b67b78e86f7b3e10"},
		{32, 16, 18446744073709551615, "1010171e252c333a41484f565d646b727908ffffffffffffffff53faca9e15199ff95924b4aa31de7852cad6248f21a6cea288afdb4b4850a6be"},
		{16, 8, 9223372036854775808, "08080f161d242b32390880000000000000007b61ce2da422ac2984d1d34bec56a7d99a33707b22f86161f94b7ad4bc4628fc"},
		{7, 15, 72057594037927935, "0f0f161d242b323940474e555c636a7107ffffffffffffff86e7af4f056526442f1df49d8361d65657f733d4228ebee89f8d1e067390e299"},
		{7, 15, 72057594037927936, "0f0f161d242b323940474e555c636a71080100000000000000e398a34a184c7b5d860f356918fa51bf027e2c9b8176ecfd1ceb75f1f1ac9833"},
		{2, 3, 4294967296, "03030a110501000000008652d0d0260cd218adc86a24236c940b8afa7110773dc77c6b9abcf38293413c"},
	} {
		if s, e := Issue(filler(c.key), filler(c.tenant), c.until); blake.Hex(s) != c.want || e != api.OK {
			t.Errorf("Issue of %d, %d, %d: %x, %d, want %s", c.key, c.tenant, c.until, s, e, c.want)
		}
	}
	if s, e := Issue("k", "a", 5); blake.Hex(s) != "016101056998a1911b1c36fff120b7afec58692d2cb5b366b4521358b83b6f04fc562c92" || e != api.OK {
		t.Errorf("the example: %x, %d", s, e)
	}
}

// P5.1: keys of 1 to 32 bytes and names of 1 to 16 may be, whatever their bytes are, and no others.
func TestIssueRefuses(t *testing.T) {
	lengths := []int{0, 1, 2, 15, 16, 17, 31, 32, 33, 64, 250, 251, 256, 257, 65535, 65536, 65537, 1 << 17}
	for _, k := range lengths {
		for _, n := range lengths {
			want := api.OK
			if k < 1 || k > 32 || n < 1 || n > 16 {
				want = api.ErrArg
			}
			s, e := Issue(strings.Repeat("\x00", k), strings.Repeat("\xff", n), 7)
			if e != want || (s == "") != (want != api.OK) {
				t.Errorf("a key of %d, a name of %d: %.40x, %d, want %d", k, n, s, e, want)
			}
		}
	}
}

// P5.1: what is issued, and what anybody else laid, is taken apart.
func TestTake(t *testing.T) {
	for name := 1; name <= api.MaxName; name++ {
		for _, until := range times() {
			tenant, seal := filler(name), filler(api.Digest)
			wantTaken(t, plainPass(tenant, until, seal), tenant, until, seal)
			s := issued(t, "k", tenant, until)
			wantTaken(t, s, tenant, until, s[len(s)-api.Digest:])
		}
	}
	for _, seal := range []string{strings.Repeat("\x00", 32), strings.Repeat("\xff", 32)} {
		wantTaken(t, "\x01\x00\x00"+seal, "\x00", 0, seal)
		wantTaken(t, "\x02\xff\x01\x01\xff"+seal, "\xff\x01", 255, seal)
	}
}

// P5.1: each piece that is missing or too much, and each form that chapter 1 refuses, whatever its error is.
func TestTakeRefuses(t *testing.T) {
	seal := filler(api.Digest)
	for _, tenant := range []string{"a", "\x00", filler(16)} {
		for _, until := range times() {
			s := plainPass(tenant, until, seal)
			for i := range len(s) {
				wantNoForm(t, "cut short", s[:i])
			}
			wantNoForm(t, "a byte behind", s+"\x00")
			wantNoForm(t, "a pass behind", s+s)
			wantNoForm(t, "a byte ahead", "\x00"+s)
		}
	}
	for what, s := range map[string]string{
		"no name":                         plainPass("", 5, seal),
		"no name, and one that looks so":  "\x00\x01a\x01\x05" + seal,
		"17 bytes of a name":              plainPass(filler(17), 5, seal),
		"250 bytes of a name":             plainPass(filler(250), 5, seal),
		"251 bytes of a name":             "\xfb\x00\xfb" + filler(251) + "\x01\x05" + seal,
		"65535 bytes of a name":           "\xfb\xff\xff" + filler(65535) + "\x01\x05" + seal,
		"a short name in the long form":   "\xfb\x00\x01a\x01\x05" + seal,
		"no name in the long form":        "\xfb\x00\x00\x01\x05" + seal,
		"a length that none has":          "\xfca\x01\x05" + seal,
		"the highest length":              "\xffa\x01\x05" + seal,
		"a nought at the time's head":     "\x01a\x02\x00\x05" + seal,
		"a nought as a byte":              "\x01a\x01\x00" + seal,
		"nine bytes of a time":            "\x01a\x09" + filler(9) + seal,
		"250 bytes of a time":             "\x01a\xfa" + filler(250) + seal,
		"a time of more bytes than there": "\x01a\x08" + filler(7),
		"no seal":                         "\x01a\x01\x05",
		"a seal of 31":                    "\x01a\x01\x05" + filler(31),
		"a seal of 33":                    "\x01a\x01\x05" + filler(33),
		"a seal as a text":                "\x01a\x01\x05\x20" + seal,
		"a seal of 64":                    "\x01a\x01\x05" + filler(64),
	} {
		wantNoForm(t, what, s)
	}
}

// P5.1: Take says of any bytes what the document's words say of them.
func TestTakeByWords(t *testing.T) {
	r := rand.New(rand.NewSource(1))
	taken, refused := 0, 0
	for range 30000 {
		b := []byte(plainPass(filler(r.Intn(19)), r.Uint64()>>r.Intn(65), filler(30+r.Intn(5))))
		for range r.Intn(3) {
			b[r.Intn(len(b))] = byte(r.Intn(20))
		}
		s := string(b)
		a, u, v, ok := plainTake(s)
		if ok {
			taken++
			wantTaken(t, s, a, u, v)
			continue
		}
		refused++
		if a, u, v, e := Take(s); a != "" || u != 0 || v != "" || e != api.ErrForm {
			t.Fatalf("Take of %x: %x, %d, %x, %d", s, a, u, v, e)
		}
	}
	if taken < 1000 || refused < 1000 {
		t.Errorf("%d taken, %d refused", taken, refused)
	}
}

// P5.1: Equal is whether two are the same, of any lengths, wherever and by whichever bit they are unlike.
func TestEqual(t *testing.T) {
	for _, n := range []int{0, 1, 2, 31, 32, 33, 64, 257} {
		s := filler(n)
		if !Equal(s, string([]byte(s))) {
			t.Errorf("%d bytes are not the same as themselves", n)
		}
		for _, other := range []string{s + "\x00", s + "\xff", "\x00" + s, s + s + "a"} {
			if Equal(s, other) || Equal(other, s) {
				t.Errorf("%d bytes are the same as %d", n, len(other))
			}
		}
		for i := range n {
			for bit := range 8 {
				b := []byte(s)
				b[i] ^= 1 << bit
				if Equal(s, string(b)) || Equal(string(b), s) {
					t.Errorf("%d bytes, another bit %d at %d: the same", n, bit, i)
				}
			}
			if Equal(s, s[:i]) || Equal(s[:i], s) {
				t.Errorf("%d bytes are the same as %d of them", n, i)
			}
		}
	}
	if Equal("\x01\x01", "\x00\x00") || Equal("ab", "ba") || !Equal("", "") {
		t.Error("unlike bytes that make up for each other, or nothing")
	}
}

// P5.2: another key, one that may not be, and seals of something else.
func TestCheckRefuses(t *testing.T) {
	s := issued(t, "k", "a", 5)
	for _, key := range []string{"", "l", "K", "k\x00", "kk", "\x00k", filler(32), filler(33), "k" + strings.Repeat("\x00", 31), "k" + strings.Repeat("\x00", 32), filler(1 << 17)} {
		wantCheck(t, "another key", key, s, 5, "", api.ErrPass)
	}
	seal := s[len(s)-api.Digest:]
	for what, wrong := range map[string]string{
		"the seal of another tenant":  plainPass("b", 5, seal),
		"the seal of another time":    plainPass("a", 6, seal),
		"a sum without a key":         plainPass("a", 5, blake.Sum("\x04\x01a\x01\x05")),
		"a seal without the mark":     plainPass("a", 5, keyed("k", "\x01a\x01\x05")),
		"a seal of another mark":      plainPass("a", 5, keyed("k", "\x03\x01a\x01\x05")),
		"a seal of the name alone":    plainPass("a", 5, keyed("k", "\x04\x01a")),
		"a seal of the bare name":     plainPass("a", 5, keyed("k", "\x04a\x01\x05")),
		"noughts":                     plainPass("a", 5, strings.Repeat("\x00", 32)),
		"the seal from its other end": plainPass("a", 5, seal[16:]+seal[:16]),
	} {
		wantCheck(t, what, "k", wrong, 0, "", api.ErrPass)
	}
	wantCheck(t, "a seal that another program laid", "k", plainPass("a", 5, keyed("k", "\x04\x01a\x01\x05")), 5, "a", api.OK)
}

func keyed(key, s string) string {
	sum, _ := blake.Keyed(key, s)
	return sum
}

// P5.2: of several errors the one that is named first.
func TestCheckTellsTheFirst(t *testing.T) {
	s := issued(t, "k", "a", 5)
	other := s[:len(s)-1] + string([]byte{s[len(s)-1] + 1})
	for _, key := range []string{"", "l", filler(33)} {
		wantCheck(t, "no form, another key, late", key, s+"x", 6, "", api.ErrForm)
		wantCheck(t, "another key, late", key, s, 6, "", api.ErrPass)
		wantCheck(t, "another key, another seal, late", key, other, 6, "", api.ErrPass)
	}
	wantCheck(t, "no form, late", "k", s+"x", 6, "", api.ErrForm)
	wantCheck(t, "another seal, late", "k", other, 6, "", api.ErrPass)
	wantCheck(t, "late alone", "k", s, 6, "", api.ErrLate)
	wantCheck(t, "nothing at all", "", "", 0, "", api.ErrForm)
}

// P5.2: a key that may not be fits no seal, not even the one that no sum gives.
func TestCheckByNoKey(t *testing.T) {
	for _, key := range []string{"", filler(33)} {
		for _, seal := range []string{strings.Repeat("\x00", 32), blake.Sum("\x04\x01a\x01\x05"), filler(32)} {
			wantCheck(t, "a key that may not be", key, plainPass("a", 5, seal), 0, "", api.ErrPass)
		}
	}
}

// P5.3: what was issued is checked up to its time, and not behind it; times are held against each other without a sign.
func TestIssuedIsChecked(t *testing.T) {
	for _, key := range []string{"k", "\x00", filler(31), filler(32)} {
		for _, tenant := range []string{"a", "\x00", filler(15), filler(16)} {
			for _, until := range times() {
				s := issued(t, key, tenant, until)
				for _, now := range times() {
					if now <= until {
						wantCheck(t, "in time", key, s, now, tenant, api.OK)
					} else {
						wantCheck(t, "late", key, s, now, "", api.ErrLate)
					}
				}
				wantCheck(t, "at its time", key, s, until, tenant, api.OK)
				if until < math.MaxUint64 {
					wantCheck(t, "just behind it", key, s, until+1, "", api.ErrLate)
				}
			}
		}
	}
	s := issued(t, "k", "a", 5)
	wantCheck(t, "the example", "k", s, 5, "a", api.OK)
	wantCheck(t, "the example", "k", s, 6, "", api.ErrLate)
}

// P5.3: each byte of the seal, as each other one; and each of what it seals.
func TestAnotherByteIsRefused(t *testing.T) {
	s := issued(t, filler(9), "ab", 1000)
	for i := range len(s) {
		for by := 1; by < 256; by++ {
			b := []byte(s)
			b[i] ^= byte(by)
			tenant, e := Check(filler(9), string(b), 0)
			sealed := i >= len(s)-api.Digest
			if tenant != "" || e != api.ErrPass && (sealed || e != api.ErrForm) {
				t.Errorf("byte %d xor %d: %x, %d", i, by, tenant, e)
			}
		}
	}
}

// R4: the same is answered again, whatever was asked between.
func TestNothingIsKept(t *testing.T) {
	s := issued(t, "k", "a", 5)
	Issue("", "", 0)
	wantCheck(t, "first", "k", s, 5, "a", api.OK)
	wantCheck(t, "late", "k", s, 6, "", api.ErrLate)
	wantCheck(t, "by another key", "l", s, 5, "", api.ErrPass)
	wantCheck(t, "earlier again", "k", s, 5, "a", api.OK)
	wantTaken(t, s, "a", 5, s[4:])
	if issued(t, "k", "a", 5) != s || issued(t, "k", "b", 5) == s {
		t.Error("what came out hangs on another call")
	}
}
