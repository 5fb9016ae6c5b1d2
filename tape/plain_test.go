package tape

import (
	"math/rand"
	"strings"

	"cartouche/api"
)

// What follows is the document's words again, byte by byte, with nothing of the package or of package lump.

func filler(n int) string {
	b := make([]byte, n)
	for i := range b {
		b[i] = byte(i*7 + n)
	}
	return string(b)
}

// plainText are a record's bytes.
func plainText(rec string) string {
	if len(rec) <= 250 {
		return string([]byte{byte(len(rec))}) + rec
	}
	return string([]byte{251, byte(len(rec) / 256), byte(len(rec) % 256)}) + rec
}

// plainTexts are those of several records.
func plainTexts(l ...string) string {
	s := ""
	for _, rec := range l {
		s += plainText(rec)
	}
	return s
}

// plainFirst is how many bytes of a text's form begin bytes, and how many of these are ahead of the text; 0 and 0, if none begins them.
func plainFirst(s string) (int, int) {
	if s == "" || s[0] > 251 {
		return 0, 0
	}
	front, n := 1, int(s[0])
	if s[0] == 251 {
		if len(s) < 3 {
			return 0, 0
		}
		front, n = 3, int(s[1])*256+int(s[2])
		if n <= 250 {
			return 0, 0
		}
	}
	if len(s)-front < n {
		return 0, 0
	}
	return front + n, front
}

func plainScan(s string) ([]string, int) {
	var l []string
	at := 0
	for {
		n, front := plainFirst(s[at:])
		if n == 0 {
			return l, at
		}
		l = append(l, s[at+front:at+n])
		at += n
	}
}

// plainWrite lays one byte behind the other, until there is no power.
func plainWrite(t api.Tape, rec string) (api.Tape, api.Errno) {
	if t.Off {
		return t, api.ErrDead
	}
	if len(rec) > 65535 {
		return t, api.ErrBig
	}
	b := plainText(rec)
	if t.Room < 0 || uint64(t.Room) < uint64(len(b)) {
		return t, api.ErrFull
	}
	var w strings.Builder
	w.WriteString(t.Wait)
	for i := 0; i < len(b) && !t.Off; i++ {
		switch {
		case t.Fuse == 0:
			t.Off = true
			continue
		case t.Fuse > 0:
			t.Fuse--
		}
		w.WriteByte(b[i])
		t.Room--
	}
	t.Wait = w.String()
	if t.Off {
		return t, api.ErrDead
	}
	return t, api.OK
}

// plainCrash gives back the room of one byte after the other.
func plainCrash(t api.Tape, keep int) api.Tape {
	s := t.Safe
	for i := 0; i < len(t.Wait) && i < keep; i++ {
		s += t.Wait[i : i+1]
	}
	_, n := plainScan(s)
	z := api.Tape{Safe: s[:n], Room: t.Room, Fuse: -1}
	for range len(t.Safe + t.Wait) {
		z.Room++
	}
	for range n {
		z.Room--
	}
	return z
}

// shortTexts are all texts of at most so many bytes, of those that may begin a record or stand in one.
func shortTexts(most int) []string {
	all, last := []string{""}, []string{""}
	for range most {
		var next []string
		for _, s := range last {
			for _, b := range []string{"\x00", "\x01", "\x02", "\xfb", "\xfc"} {
				next = append(next, s+b)
			}
		}
		all, last = append(all, next...), next
	}
	return all
}

// someTape is one, made by hand: torn at any place, with any bytes in it.
func someTape(r *rand.Rand) api.Tape {
	var b strings.Builder
	for range r.Intn(5) {
		b.WriteString(plainText(filler([]int{0, 1, 2, 7, 249, 250, 251, 252, 300}[r.Intn(9)])))
	}
	s := []byte(b.String())
	if len(s) > 0 && r.Intn(3) == 0 {
		s[r.Intn(len(s))] = byte(r.Intn(256))
	}
	s = s[:len(s)-r.Intn(min(len(s), 4)+1)]
	at := r.Intn(len(s) + 1)
	return api.Tape{
		Safe: string(s[:at]), Wait: string(s[at:]),
		Room: r.Intn(600) - 5, Fuse: r.Intn(300) - 20, Off: r.Intn(6) == 0,
	}
}
