package lump

import (
	"math"
	"math/rand"
	"slices"
	"strings"
	"testing"

	"cartouche/api"
)

// anyMost is a bound that no length is above.
const anyMost = api.MaxText

// The edges of lengths that the document names, and those beside them.
var edgeLengths = []int{0, 1, 2, 249, 250, 251, 252, 255, 256, 257, 511, 512, 65279, 65280, 65534, 65535}

// The edges of numbers: each count of bytes, and each one's greatest and least.
func edgeNums() []uint64 {
	l := []uint64{0, 1, 2, 9, 127, 128, math.MaxUint64 - 1, math.MaxUint64}
	for k := range 8 {
		p := uint64(1) << (8 * k)
		l = append(l, p-1, p, p+1, p|p<<3)
	}
	return l
}

// plainNum are a number's bytes, by the document's words and by no array.
func plainNum(v uint64) string {
	s := ""
	for v != 0 {
		s = string([]byte{byte(v % 256)}) + s
		v /= 256
	}
	return string([]byte{byte(len(s))}) + s
}

// plainLength are a length's bytes, by the document's words.
func plainLength(n int) string {
	if n <= 250 {
		return string([]byte{byte(n)})
	}
	return string([]byte{251, byte(n / 256), byte(n % 256)})
}

func filler(n int) string {
	b := make([]byte, n)
	for i := range b {
		b[i] = byte(i*7 + n)
	}
	return string(b)
}

// someBytes is a text whose bytes are often those that tell how many follow.
func someBytes(r *rand.Rand, most int) string {
	b := make([]byte, r.Intn(most+1))
	for i := range b {
		switch r.Intn(4) {
		case 0:
			b[i] = byte(r.Intn(10))
		case 1:
			b[i] = byte(248 + r.Intn(8))
		default:
			b[i] = byte(r.Intn(256))
		}
	}
	return string(b)
}

func wantText(t *testing.T, s string, most int, text, rest string, err api.Errno) {
	t.Helper()
	a, b, e := TakeText(s, most)
	if a != text || b != rest || e != err {
		t.Errorf("TakeText(%.20q of %d, %d): %d bytes, %d behind, %d; want %d, %d, %d", s, len(s), most, len(a), len(b), e, len(text), len(rest), err)
	}
}

func wantRow(t *testing.T, s string, many, most int, row []string, rest string, err api.Errno) {
	t.Helper()
	l, b, e := TakeRow(s, many, most)
	if !slices.Equal(l, row) || b != rest || e != err {
		t.Errorf("TakeRow(%.20q of %d, %d, %d): %d texts, %d behind, %d; want %d, %d, %d", s, len(s), many, most, len(l), len(b), e, len(row), len(rest), err)
	}
}

// P1.1: numbers.
func TestNum(t *testing.T) {
	for _, x := range []struct {
		v uint64
		s string
	}{
		{0, "\x00"},
		{1, "\x01\x01"},
		{255, "\x01\xff"},
		{256, "\x02\x01\x00"},
		{258, "\x02\x01\x02"},
		{1 << 56, "\x08\x01\x00\x00\x00\x00\x00\x00\x00"},
		{math.MaxUint64, "\x08\xff\xff\xff\xff\xff\xff\xff\xff"},
	} {
		if s := Num(x.v); s != x.s {
			t.Errorf("Num(%d): %x, want %x", x.v, s, x.s)
		}
	}
	for _, v := range edgeNums() {
		if s := Num(v); s != plainNum(v) {
			t.Errorf("Num(%d): %x, want %x", v, s, plainNum(v))
		}
	}
}

// P1.1: texts, at each edge of their lengths.
func TestText(t *testing.T) {
	for _, n := range edgeLengths {
		x := filler(n)
		if s, e := Text(x); s != plainLength(n)+x || e != api.OK {
			t.Errorf("Text of %d bytes: %d bytes, %d", n, len(s), e)
		}
	}
	for _, x := range []struct {
		n    int
		head string
	}{{0, "\x00"}, {250, "\xfa"}, {251, "\xfb\x00\xfb"}, {256, "\xfb\x01\x00"}, {65535, "\xfb\xff\xff"}} {
		if s, e := Text(filler(x.n)); !strings.HasPrefix(s, x.head) || len(s) != len(x.head)+x.n || e != api.OK {
			t.Errorf("Text of %d bytes: %d bytes, %d", x.n, len(s), e)
		}
	}
	for _, n := range []int{api.MaxText + 1, api.MaxText + 2, 1 << 17} {
		if s, e := Text(filler(n)); s != "" || e != api.ErrBig {
			t.Errorf("Text of %d bytes: %d bytes, %d", n, len(s), e)
		}
	}
}

// P1.1: rows.
func TestRow(t *testing.T) {
	for _, x := range []struct {
		l []string
		s string
	}{
		{nil, "\x00"},
		{[]string{}, "\x00"},
		{[]string{""}, "\x01\x00"},
		{[]string{"a", "", "bc"}, "\x03\x01a\x00\x02bc"},
		{[]string{filler(251)}, "\x01\xfb\x00\xfb" + filler(251)},
	} {
		if s, e := Row(x.l); s != x.s || e != api.OK {
			t.Errorf("Row(%q): %q, %d", x.l, s, e)
		}
	}
	for _, n := range edgeLengths {
		l := make([]string, n)
		if s, e := Row(l); s != plainLength(n)+strings.Repeat("\x00", n) || e != api.OK {
			t.Errorf("Row of %d texts: %d bytes, %d", n, len(s), e)
		}
	}
}

// P1.1: rows that are too great, and a list that is left as it was.
func TestRowBig(t *testing.T) {
	big := filler(api.MaxText + 1)
	for i, l := range [][]string{
		make([]string, api.MaxText+1),
		{big},
		{big, "a"},
		{"a", "b", big},
		{filler(api.MaxText), big},
	} {
		if s, e := Row(l); s != "" || e != api.ErrBig {
			t.Errorf("%d: %d bytes, %d", i, len(s), e)
		}
	}
	if s, e := Row([]string{filler(api.MaxText)}); len(s) != 1+3+api.MaxText || e != api.OK {
		t.Errorf("%d bytes, %d", len(s), e)
	}
	l := []string{"a", "bc", "", "d"}
	if _, e := Row(l[:2]); e != api.OK || !slices.Equal(l, []string{"a", "bc", "", "d"}) {
		t.Errorf("%q, %d", l, e)
	}
}

// P1.2: each error, the one that is named first where several apply.
func TestTakeNum(t *testing.T) {
	for _, x := range []struct {
		s    string
		v    uint64
		rest string
		e    api.Errno
	}{
		{"", 0, "", api.ErrMore},
		{"\x09", 0, "", api.ErrForm},
		{"\x09\x01\x02\x03\x04\x05\x06\x07\x08\x09", 0, "", api.ErrForm},
		{"\xff", 0, "", api.ErrForm},
		{"\x01", 0, "", api.ErrMore},
		{"\x08\x01\x02\x03\x04\x05\x06\x07", 0, "", api.ErrMore},
		{"\x02\x00", 0, "", api.ErrMore}, // bytes are missing, ahead of the 0
		{"\x02\x01", 0, "", api.ErrMore},
		{"\x01\x00", 0, "", api.ErrForm},
		{"\x02\x00\x01", 0, "", api.ErrForm},
		{"\x08\x00\x02\x03\x04\x05\x06\x07\x08", 0, "", api.ErrForm},
		{"\x00", 0, "", api.OK},
		{"\x00\x00", 0, "\x00", api.OK}, // of the number 0 no first byte is asked
		{"\x00\x09", 0, "\x09", api.OK},
		{"\x01\x01\x00", 1, "\x00", api.OK},
		{"\x02\x01\x00z", 256, "z", api.OK},
		{"\x08\xff\xff\xff\xff\xff\xff\xff\xff\xff", math.MaxUint64, "\xff", api.OK},
	} {
		if v, rest, e := TakeNum(x.s); v != x.v || rest != x.rest || e != x.e {
			t.Errorf("TakeNum(%x): %d, %x, %d; want %d, %x, %d", x.s, v, rest, e, x.v, x.rest, x.e)
		}
	}
}

// P1.3: a text's length that is none.
func TestTakeTextForm(t *testing.T) {
	for _, most := range []int{-1, 0, 300, anyMost} { // these errors are ahead of ErrBig
		wantText(t, "", most, "", "", api.ErrMore)
		for first := 252; first <= 255; first++ {
			wantText(t, string([]byte{byte(first)}), most, "", "", api.ErrForm)
			wantText(t, string([]byte{byte(first), 1, 0})+filler(256), most, "", "", api.ErrForm)
		}
		wantText(t, "\xfb", most, "", "", api.ErrMore)
		wantText(t, "\xfb\x00", most, "", "", api.ErrMore)
		wantText(t, "\xfb\xff", most, "", "", api.ErrMore)
		for _, n := range []int{0, 1, 249, 250} {
			wantText(t, string([]byte{251, 0, byte(n)}), most, "", "", api.ErrForm)
			wantText(t, string([]byte{251, 0, byte(n)})+filler(n), most, "", "", api.ErrForm)
		}
	}
}

// P1.3: a text's bound, and what is there of it.
func TestTakeTextBound(t *testing.T) {
	for _, n := range edgeLengths {
		head, x := plainLength(n), filler(n)
		for _, most := range []int{n, n + 1, anyMost, math.MaxInt} {
			wantText(t, head+x, most, x, "", api.OK)
			wantText(t, head+x+"\xfb", most, x, "\xfb", api.OK)
			if n > 0 {
				wantText(t, head+x[1:], most, "", "", api.ErrMore)
				wantText(t, head, most, "", "", api.ErrMore)
			}
		}
		for _, most := range []int{n - 1, -1, -250, math.MinInt} {
			wantText(t, head+x, most, "", "", api.ErrBig)
			wantText(t, head, most, "", "", api.ErrBig) // ahead of the bytes that are missing
		}
	}
}

// P1.3: how many texts a row has.
func TestTakeRowMany(t *testing.T) {
	for _, many := range []int{-1, 0, 300, anyMost} {
		wantRow(t, "", many, 9, nil, "", api.ErrMore)
		wantRow(t, "\xfc", many, 9, nil, "", api.ErrForm)
		wantRow(t, "\xff\x00", many, 9, nil, "", api.ErrForm)
		wantRow(t, "\xfb\x01", many, 9, nil, "", api.ErrMore)
		wantRow(t, "\xfb\x00\xfa"+strings.Repeat("\x00", 250), many, 9, nil, "", api.ErrForm)
	}
	for _, n := range edgeLengths {
		s, l := plainLength(n)+strings.Repeat("\x00", n), make([]string, n)
		for _, many := range []int{n, n + 1, math.MaxInt} {
			wantRow(t, s, many, 0, l, "", api.OK)
			wantRow(t, s+"z", many, 0, l, "z", api.OK)
			if n > 0 {
				wantRow(t, s[:len(s)-1], many, 0, nil, "", api.ErrMore)
				wantRow(t, s, many, -1, nil, "", api.ErrBig)
			}
		}
		for _, many := range []int{n - 1, -1, math.MinInt} {
			wantRow(t, s, many, 0, nil, "", api.ErrBig)
			wantRow(t, plainLength(n), many, -1, nil, "", api.ErrBig)
		}
	}
	wantRow(t, "\x00z", 0, -1, nil, "z", api.OK) // no text that could be above the bound
}

// P1.3: a row's texts, one by one: the first one's error is the answer.
func TestTakeRowTexts(t *testing.T) {
	for _, x := range []struct {
		s    string
		most int
		l    []string
		rest string
		e    api.Errno
	}{
		{"\x03\x01a\x00\x02bc!", 2, []string{"a", "", "bc"}, "!", api.OK},
		{"\x03\x01a\x00\x02bc!", 1, nil, "", api.ErrBig},
		{"\x03\x01a\x00\x02bc!", -1, nil, "", api.ErrBig},
		{"\x03\x01a\x00\x02b", 2, nil, "", api.ErrMore},
		{"\x03\x01a\x00", 2, nil, "", api.ErrMore},
		{"\x02\x01a\xfc", 2, nil, "", api.ErrForm},
		{"\x02\xfc\x02", 0, nil, "", api.ErrForm},
		{"\x02\x02bc\xfc", 1, nil, "", api.ErrBig},
		{"\x02\x02b", 2, nil, "", api.ErrMore},
		{"\x01\xfb\x00\x01a", 2, nil, "", api.ErrForm},
		{"\x01\xfb\x00\xfb" + filler(251) + "\x09", 251, []string{filler(251)}, "\x09", api.OK},
		{"\x01\xfb\x00\xfb" + filler(251), 250, nil, "", api.ErrBig},
		{"\xfb\xff\xff", 9, nil, "", api.ErrMore},
	} {
		wantRow(t, x.s, anyMost, x.most, x.l, x.rest, x.e)
	}
}

// P1.4: what was written is taken, whatever stands behind it; no beginning of it is a form.
func TestWrittenIsTaken(t *testing.T) {
	r := rand.New(rand.NewSource(1))
	for range 300 {
		behind := someBytes(r, 20)
		v := r.Uint64() >> r.Intn(65)
		s := Num(v)
		if w, rest, e := TakeNum(s + behind); w != v || rest != behind || e != api.OK {
			t.Errorf("%d: %d, %x, %d", v, w, rest, e)
		}
		for i := range len(s) {
			if w, rest, e := TakeNum(s[:i]); w != 0 || rest != "" || e != api.ErrMore {
				t.Errorf("%x: %d, %x, %d", s[:i], w, rest, e)
			}
		}
		x := someBytes(r, 300)
		s, _ = Text(x)
		wantText(t, s+behind, anyMost, x, behind, api.OK)
		for i := range len(s) {
			wantText(t, s[:i], anyMost, "", "", api.ErrMore)
		}
		l := make([]string, r.Intn(6))
		for i := range l {
			l[i] = someBytes(r, 10+r.Intn(2)*300)
		}
		s, _ = Row(l)
		wantRow(t, s+behind, anyMost, anyMost, l, behind, api.OK)
		for i := range len(s) {
			wantRow(t, s[:i], anyMost, anyMost, nil, "", api.ErrMore)
		}
	}
}

// P1.4: what is taken is written by the same bytes; and nothing stands beside an error.
func TestTakenIsWritten(t *testing.T) {
	r := rand.New(rand.NewSource(2))
	for range 20000 {
		takenIsWritten(t, someBytes(r, 12))
		takenIsWritten(t, someBytes(r, 600))
	}
	for a := range 256 {
		for b := range 256 {
			takenIsWritten(t, string([]byte{byte(a), byte(b)}))
			takenIsWritten(t, string([]byte{byte(a), byte(b), 1})+filler(260))
			takenIsWritten(t, string([]byte{251, byte(a), byte(b)})+filler(b))
		}
	}
}

func takenIsWritten(t *testing.T, s string) {
	t.Helper()
	v, rest, e := TakeNum(s)
	if e == api.OK && Num(v)+rest != s || e != api.OK && (v != 0 || rest != "") {
		t.Errorf("TakeNum(%x): %d, %x, %d", s, v, rest, e)
	}
	x, rest, e := TakeText(s, anyMost)
	if w, _ := Text(x); e == api.OK && w+rest != s || e != api.OK && (x != "" || rest != "") {
		t.Errorf("TakeText(%x): %x, %x, %d", s, x, rest, e)
	}
	l, rest, e := TakeRow(s, anyMost, anyMost)
	if w, _ := Row(l); e == api.OK && w+rest != s || e != api.OK && (len(l) > 0 || rest != "") {
		t.Errorf("TakeRow(%x): %x, %x, %d", s, l, rest, e)
	}
}
