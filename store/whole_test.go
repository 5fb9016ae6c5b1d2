package store

import (
	"fmt"
	"math/rand"
	"slices"
	"testing"

	"cartouche/api"
)

// P17.1: all rows of up to five records, of those that may be somewhere and of some that may be nowhere.
func TestAllShortTapes(t *testing.T) {
	known := []deed{put(begin(1)), put(write(2, "a", "b")), seal(), note("b"), note("")}
	opened, odd := 0, 0
	var onward func(s string, l []deed, may bool)
	onward = func(s string, l []deed, may bool) {
		x := api.Tape{Safe: s[:len(s)/2], Wait: s[len(s)/2:], Fuse: -1}
		if may {
			opened++
			wantOpen(t, fmt.Sprintf("%q", s), x, on(x, l...), api.OK)
		} else {
			odd++
			wantOpen(t, fmt.Sprintf("%q", s), x, api.Store{}, api.ErrForm)
		}
		if len(l) == 5 {
			return
		}
		for _, d := range known {
			onward(s+plainText(d.record()), append(slices.Clip(l), d), may && d.refused(has(l)) == api.OK)
		}
		for _, rec := range []string{"", "e", "x"} {
			onward(s+plainText(rec), append(slices.Clip(l), deed{}), false)
		}
	}
	onward("", nil, true)
	if opened < 1000 || odd < 1000 {
		t.Errorf("%d opened, %d odd", opened, odd)
	}
}

// someDeed is one, of those that may be done oftener than of others.
func someDeed(r *rand.Rand) deed {
	switch r.Intn(12) {
	case 0, 1:
		return seal()
	case 2, 3:
		return note(filler([]int{0, 1, 2, 9, 248, 249, 250, 251}[r.Intn(8)]))
	case 4:
		return put(api.Event{Kind: r.Intn(8) - 1, Txn: r.Intn(36) - 1, Key: filler(r.Intn(3)), Val: filler(r.Intn(3))})
	}
	return put([]api.Event{begin(1 + r.Intn(32)), commit(1), abort(2), write(3, filler(1+r.Intn(32)), filler(1+r.Intn(32))), read(4, "a", "")}[r.Intn(5)])
}

// known is what somebody who calls knows: all that was done, how much of it is sure, and how much room there was at first.
type known struct {
	done []deed
	sure int
	room int
}

// wantKnown: a store has what was done to it, and its tape has these records, the sure ones safe, and torn bytes only without power.
func wantKnown(t *testing.T, s api.Store, k known) {
	t.Helper()
	if !plainHas(s, has(k.done)) {
		t.Fatalf("%s: want %s", shown(s), shown(has(k.done)))
	}
	safe, all := tapeOf(k.done[:k.sure]), tapeOf(k.done)
	b := s.T.Safe + s.T.Wait
	if s.T.Safe != safe || len(b) < len(all) || b[:len(all)] != all || len(b) > len(all) && !s.T.Off || s.T.Room+len(b) != k.room {
		t.Fatalf("%s: want %.60q, and %.60q of it safe, of a room of %d", shown(s), all, safe, k.room)
	}
}

// crashed is what is known behind a crash.
func crashed(k known, keep int) known {
	many := k.sure
	for many < len(k.done) && len(tapeOf(k.done[k.sure:many+1])) <= keep {
		many++
	}
	return known{slices.Clip(k.done[:many]), many, k.room}
}

// wantCrashes is P17.3: whatever is kept, a beginning of all that was done, with all that is sure, and no more is lost by another crash.
func wantCrashes(t *testing.T, s api.Store, k known, keeps ...int) {
	t.Helper()
	for _, keep := range keeps {
		left := crashed(k, keep)
		y, e := Crash(s, keep)
		if e != api.OK || y.T.Wait != "" || y.T.Fuse != -1 || y.T.Off {
			t.Fatalf("Crash %d of %s: %s, %d", keep, shown(s), shown(y), e)
		}
		wantKnown(t, y, left)
		if len(y.Hists) != len(s.Hists) || !slices.Equal(y.Certs, s.Certs) {
			t.Fatalf("Crash %d of %s: %s: what was sealed and noted is lost", keep, shown(s), shown(y))
		}
		again, e := Crash(y, keep)
		wantAnswer(t, "a crash behind a crash", again, e, y, api.OK)
		opened, e := Open(y.T)
		wantAnswer(t, "opened", opened, e, y, api.OK)
	}
	if y, e := Crash(s, len(s.T.Wait)); e != api.OK || !plainHas(y, s) {
		t.Fatalf("all of %s is kept: %s, %d", shown(s), shown(y), e)
	}
	if y, e := Open(s.T); !s.T.Off && (e != api.OK || !plainSame(y, s)) {
		t.Fatalf("Open of the tape of %s: %s, %d", shown(s), shown(y), e)
	}
}

// P17.2, P17.3: scripts of all calls from a new store on, each against the document's words, with crashes at any time.
func TestScripts(t *testing.T) {
	r := rand.New(rand.NewSource(5))
	told := map[api.Errno]int{}
	crashes, lost := 0, 0
	for range 300 {
		k := known{room: r.Intn(9000)}
		s := fresh(t, k.room)
		for range 120 {
			switch r.Intn(20) {
			case 0:
				s = Arm(s, r.Intn(600)-100)
			case 1:
				keep := r.Intn(len(s.T.Wait)+4) - 2
				wantCrashes(t, s, k, keep)
				left := crashed(k, keep)
				crashes, lost = crashes+1, lost+min(len(k.done)-len(left.done), 1)
				s, _ = Crash(s, keep)
				k = left
			default:
				d := someDeed(r)
				want, err := plainDo(s, d)
				y, e := do(s, d)
				wantAnswer(t, "a deed", y, e, want, err)
				told[e]++
				if e == api.OK {
					k.done = append(slices.Clip(k.done), d)
					if d.what != 'e' {
						k.sure = len(k.done)
					}
				}
				s = y
			}
			wantKnown(t, s, k)
		}
	}
	for e, least := range map[api.Errno]int{api.OK: 5000, api.ErrArg: 500, api.ErrNone: 500, api.ErrFull: 500, api.ErrDead: 500} {
		if told[e] < least {
			t.Errorf("error %d told %d times", e, told[e])
		}
	}
	if crashes < 1000 || lost < 300 {
		t.Errorf("%d crashes, %d with losses", crashes, lost)
	}
}

// P17.3: where the power goes, at each byte, and whatever is kept then: what was done ahead is there, and the store goes on.
func TestEachLossOfPower(t *testing.T) {
	front := []deed{put(begin(1)), note("first"), put(begin(2))}
	back := []deed{put(commit(1)), put(write(2, "a", "b")), seal(), put(begin(3)), put(begin(4)), note(filler(251)), put(begin(5))}
	for fuse := range len(tapeOf(back)) {
		k := known{slices.Clone(front), 2, 400}
		s, e := Arm(after(t, fresh(t, 400), front...), fuse), api.OK
		for i := 0; e == api.OK; i++ {
			s, e = do(s, back[i])
			if e == api.OK {
				k.done = append(k.done, back[i])
				if back[i].what != 'e' {
					k.sure = len(k.done)
				}
			}
		}
		if e != api.ErrDead {
			t.Fatalf("fuse %d: %d", fuse, e)
		}
		wantKnown(t, s, k)
		for keep := -1; keep <= len(s.T.Wait)+1; keep++ {
			wantCrashes(t, s, k, keep)
			y, _ := Crash(s, keep)
			left := crashed(k, keep)
			y = after(t, y, put(begin(9)), seal(), note("last"))
			wantKnown(t, y, known{append(left.done, put(begin(9)), seal(), note("last")), len(left.done) + 3, 400})
		}
	}
}

// P17.1, P17.2: nobody but New and these calls is needed to have as much as there may be, and a crash keeps it.
func TestAllThatMayBe(t *testing.T) {
	l := slices.Concat(times(8, append(events(64), seal())...), times(16, note(filler(252))), events(64))
	s := after(t, fresh(t, len(tapeOf(l))), l...)
	if s.T.Room != 0 || len(s.Hists) != 8 || len(s.Certs) != 16 || len(s.Open) != 64 {
		t.Error(shown(s))
	}
	k := known{l, len(l) - 64, len(tapeOf(l))}
	wantKnown(t, s, k)
	wantCrashes(t, s, k, 0, 20, len(s.T.Wait)-1, len(s.T.Wait))
}
