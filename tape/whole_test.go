package tape

import (
	"math/rand"
	"slices"
	"testing"

	"cartouche/api"
)

// wantAsTheWords: each call on a tape answers as the document's words, done byte by byte.
func wantAsTheWords(t *testing.T, x api.Tape, recs []string, keeps []int) {
	t.Helper()
	for _, rec := range recs {
		want, e := plainWrite(x, rec)
		wantWrite(t, "Write", x, rec, want, e)
	}
	for _, keep := range keeps {
		wantTape(t, "Crash", Crash(x, keep), plainCrash(x, keep))
	}
	l, _ := plainScan(x.Safe + x.Wait)
	wantRead(t, "Read", x, l...)
}

// wantCrashes is P16.4 of any tape: a beginning of what Read told, with all that was safe, and nothing is changed by another crash.
func wantCrashes(t *testing.T, x api.Tape, keeps []int) {
	t.Helper()
	all, safe := Read(x), Read(api.Tape{Safe: x.Safe})
	for _, keep := range keeps {
		y := Crash(x, keep)
		l := Read(y)
		if len(l) > len(all) || !slices.Equal(l, all[:len(l)]) {
			t.Errorf("%s, kept %d: %.80q is no beginning of %.80q", shown(x), keep, l, all)
		}
		if len(l) < len(safe) || !slices.Equal(l[:len(safe)], safe) {
			t.Errorf("%s, kept %d: %.80q hasn't all of %.80q", shown(x), keep, l, safe)
		}
		for _, again := range []int{keep, -1, 0, 1, 1000} {
			wantTape(t, "a crash behind a crash", Crash(y, again), y)
		}
	}
}

// P16.2, P16.3, P16.4: all tapes of few bytes.
func TestAllShortTapes(t *testing.T) {
	recs, keeps := []string{"", "\x00", "ab"}, []int{-1, 0, 1, 2, 3}
	for _, safe := range shortTexts(2) {
		for _, wait := range shortTexts(2) {
			for room := -1; room <= 4; room++ {
				for fuse := -2; fuse <= 4; fuse++ {
					x := api.Tape{Safe: safe, Wait: wait, Room: room, Fuse: fuse}
					wantAsTheWords(t, x, recs, keeps)
					x.Off = true
					wantAsTheWords(t, x, recs, keeps)
				}
			}
			wantCrashes(t, api.Tape{Safe: safe, Wait: wait}, keeps)
		}
	}
}

// P16.2, P16.3, P16.4: tapes of any bytes.
func TestSomeTapes(t *testing.T) {
	r := rand.New(rand.NewSource(2))
	for range 20000 {
		x := someTape(r)
		keeps := []int{r.Intn(len(x.Wait)+3) - 1, r.Intn(len(x.Wait) + 1)}
		wantAsTheWords(t, x, []string{filler(r.Intn(300)), filler(r.Intn(4))}, keeps)
		wantCrashes(t, x, keeps)
	}
}

// told is what somebody who calls knows of a tape: which records were synced, which were written behind them, and what room there was at first.
type told struct {
	sure, wait []string
	room       int
}

// wantTold: the tape tells these records, and its room and its bytes are what its room was at first.
func wantTold(t *testing.T, x api.Tape, k told) {
	t.Helper()
	wantRead(t, "what was written", x, slices.Concat(k.sure, k.wait)...)
	wantRead(t, "what was synced", api.Tape{Safe: x.Safe}, k.sure...)
	if x.Room+len(x.Safe)+len(x.Wait) != k.room || x.Room < 0 {
		t.Errorf("%s: a room of %d at first", shown(x), k.room)
	}
}

// crashed: what is sure behind a crash.
func crashed(k told, keep int) told {
	for _, rec := range k.wait {
		keep -= len(plainText(rec))
		if keep < 0 {
			break
		}
		k.sure = append(k.sure, rec)
	}
	k.wait = nil
	return k
}

// step is one call of a script: what came out, what is known then, and whether there was a crash.
func step(t *testing.T, r *rand.Rand, x api.Tape, k told) (api.Tape, told, bool) {
	t.Helper()
	switch r.Intn(12) {
	case 0, 1:
		y, e := Sync(x)
		if e == api.OK {
			k.sure, k.wait = append(k.sure, k.wait...), nil
		}
		return y, k, false
	case 2:
		return Arm(x, r.Intn(60)-10), k, false
	case 3:
		keep := r.Intn(len(x.Wait)+4) - 2
		wantCrashes(t, x, []int{keep})
		return Crash(x, keep), crashed(k, keep), true
	}
	rec := filler([]int{0, 1, 2, 3, 9, 250, 251}[r.Intn(7)])
	y, e := Write(x, rec)
	if e == api.OK {
		k.wait = append(k.wait, rec)
	}
	return y, k, false
}

// P16.4: scripts of all calls from a new tape on: what was answered OK is there, till a crash, and behind it as much as was kept, with all that was synced; and so it goes on.
func TestScripts(t *testing.T) {
	r := rand.New(rand.NewSource(3))
	crashes, lost, off, full := 0, 0, 0, 0
	for range 3000 {
		k := told{room: r.Intn(1500)}
		x := fresh(t, k.room)
		for range 40 {
			y, known, crash := step(t, r, x, k)
			wantTold(t, y, known)
			if crash {
				crashes++
				if len(known.sure) < len(k.sure)+len(k.wait) {
					lost++
				}
			}
			if y.Off {
				off++
			}
			if y.Room < 10 {
				full++
			}
			x, k = y, known
		}
	}
	if crashes < 5000 || lost < 1000 || off < 5000 || full < 1000 {
		t.Errorf("%d crashes, %d with losses, %d times off, %d times nearly full", crashes, lost, off, full)
	}
}

// P16.4: where the power goes, at each byte of several records, and whatever is kept then: the records ahead are there, and the tape goes on.
func TestEachLossOfPower(t *testing.T) {
	l := []string{"a", "", "bcd", filler(251), "ef"}
	s := plainTexts(l...)
	for fuse := range len(s) {
		x, e := Arm(synced(t, written(t, fresh(t, 400), "first")), fuse), api.OK
		for i := 0; e == api.OK; i++ {
			x, e = Write(x, l[i])
		}
		if e != api.ErrDead || x.Wait != s[:fuse] {
			t.Fatalf("fuse %d: %d, %d bytes wait", fuse, e, len(x.Wait))
		}
		for keep := range fuse + 2 {
			whole, n := plainScan(s[:min(keep, fuse)])
			y := Crash(x, keep)
			wantTape(t, "behind the crash", y, api.Tape{Safe: "\x05first" + s[:n], Room: 394 - n, Fuse: -1})
			wantRead(t, "and goes on", synced(t, written(t, y, "last")), slices.Concat([]string{"first"}, whole, []string{"last"})...)
		}
	}
}
