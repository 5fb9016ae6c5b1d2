package cert

import (
	"encoding/hex"
	"fmt"
	"math"
	"math/rand"
	"reflect"
	"slices"
	"strings"
	"testing"

	"cartouche/api"
	"cartouche/blake"
	"cartouche/event"
	"cartouche/judge"
	"cartouche/redact"
	"cartouche/tree"
)

// lost are two that read a, and then write it.
func lost() []api.Event {
	return []api.Event{begin(1), begin(2), read(1, "a", ""), read(2, "a", ""), write(1, "a", "x"), write(2, "a", "y"), commit(1), commit(2)}
}

// skew are two that read what the other one writes.
func skew() []api.Event {
	return []api.Event{begin(1), begin(2), read(1, "b", ""), read(2, "a", ""), write(1, "a", "x"), write(2, "b", "y"), commit(1), commit(2)}
}

// P14.2, P14.3: certificates that another program reckoned, by their bytes' sums; each verdict and each place by hand.
func TestMadeElsewhere(t *testing.T) {
	from0 := make([]byte, 32)
	for i := range from0 {
		from0[i] = byte(i)
	}
	over := []api.Event{begin(1), write(1, "a", "x"), commit(1), begin(2), begin(3), read(2, "a", "x"), read(3, "a", "x"), write(2, "a", "y"), write(3, "a", "z"), commit(2), commit(3)}
	serial := func(v api.Verdict) api.Verdict { v.Level = api.Serial; return v }
	snapshot := func(v api.Verdict) api.Verdict { v.Level = api.Snapshot; return v }
	for _, c := range []struct {
		what, tenant string
		seq          int
		prev, seed   string
		h            []api.Event
		v            api.Verdict
		needs        []int
		many         int
		sum          string
	}{
		{"no event", "t", 1, "", "s", nil,
			serial(api.Verdict{Accept: true}), nil,
			49, "59383e57a34d15b2634e1475d79b4e9473beb409c2f9747f3ebd1763bf190a8a"},
		{"a lost update", "t", 1, "", "s", lost(),
			serial(round(edge(api.GWrite, 1, 2, 4, 5), edge(api.GOver, 2, 1, 3, 4))), []int{3, 4, 5, 6, 7},
			762, "c7a7f211a8a2722e8dc659384f41345881304798dc794f339b459d09fc69646b"},
		{"what the other one wrote over", "t", api.MaxSeq, string(from0), strings.Repeat("s", 32), skew(),
			serial(round(edge(api.GOver, 1, 2, 2, 5), edge(api.GOver, 2, 1, 3, 4))), []int{2, 3, 4, 5, 6, 7},
			935, "4705482e0943aa21317210a798001507556daf879189d29dd523f8e1f9c82783"},
		{"a snapshot", "tenant with 16 b", 65536, strings.Repeat("\xff", 32), "s", skew(),
			snapshot(api.Verdict{Accept: true, Order: []int{1, 2}}), nil,
			104, "40f4fb7fff2f42e5f526b7e2628be21ad59b646ab5bff27ae6edafe82548ec7f"},
		{"given up", "t", 258, "", "s", []api.Event{begin(1), write(1, "a", "x"), abort(1), begin(2), read(2, "a", "x"), commit(2)},
			snapshot(tainted(api.BAbort, 4, 1)), []int{1, 2, 4, 5},
			540, "4a617824c5aa1a9d7904556ef7e1c6dca916444d3aeb26c802c736f68f4cc5ac"},
		{"written over by its writer", "t", 2, "", "s", []api.Event{begin(1), write(1, "a", "x"), write(1, "a", "y"), commit(1), begin(2), read(2, "a", "x"), commit(2)},
			serial(tainted(api.BMiddle, 5, 2)), []int{1, 2, 3, 5, 6},
			743, "7b139619d4a8b2f66e11d15200f4b4c54efb6778c6e5fdbcbf3a381f534bdcab"},
		{"not its own", "t", 3, "", "s", []api.Event{begin(1), write(1, "a", "x"), commit(1), begin(2), write(2, "a", "y"), read(2, "a", "x"), commit(2)},
			serial(tainted(api.BOwn, 5, 4)), []int{1, 2, 4, 5, 6},
			743, "d7e962728086da652ae58b7e6b5f6c55c7fd2fc9d6cb77394f71285327f40589"},
		{"its own, later", "t", 4, "", "s", []api.Event{begin(7), read(7, "a", "x"), write(7, "a", "x"), commit(7)},
			serial(tainted(api.BLater, 1, 2)), []int{1, 2, 3},
			401, "0bbc2edb4ec5ef0cbe0c78d422274707fa749a5e98d756e9ea43763b9bb19de1"},
		{"a read that two write over", "t", 5, "", "\x00\xff", over,
			snapshot(round(edge(api.GWrite, 2, 3, 7, 8), edge(api.GOver, 3, 2, 6, 7))), []int{1, 2, 6, 7, 8, 9, 10},
			1169, "ba01f7e7f17f03767493c2362eee1dc8482e5dada970105ca6612c924c6746c2"},
	} {
		made, e := Make(c.tenant, c.seq, c.prev, c.seed, c.h, c.v.Level)
		if e != api.OK || made.Tenant != c.tenant || made.Seq != c.seq || made.Prev != c.prev || made.Count != len(c.h) || !judge.Same(made.V, c.v) {
			t.Errorf("%s: %#v, %d", c.what, made, e)
		}
		wantNeeds(t, c.what, c.h, made.V, c.needs...)
		s, e := Bytes(made)
		if e != api.OK || len(s) != c.many || blake.Hex(blake.Sum(s)) != c.sum {
			t.Errorf("%s, Bytes: %x, %d", c.what, s, e)
		}
		if taken, e := Take(s); e != api.OK || !Same(taken, made) || plainBytes(taken) != s {
			t.Errorf("%s, Take: %#v, %d", c.what, taken, e)
		}
	}
}

// P14.3: the bytes of one that was reckoned by another program, all of them.
func TestBytesMadeElsewhere(t *testing.T) {
	const want = "0174" + "0104" + "00" + "2074b4f627ada9fdaa9d9b4fa3c96072c7c2557913f8597a70b12d6107228998de" + "0104" +
		"0101" + "00" + "00" + "0104" + "0101" + "0102" + "00" + "0103" +
		"0101" + "44" + "0207" + "2059261878bccf1ff9ce7813ec7474f1d8946b11586284320d8317a43ad2f9b2a0" + "2019deb23f93baa712715d7cea1f9c1d2fdeb0b9e661f431001ba5b309502a6cac" +
		"02" + "201cc21449194570c4fd9b5b257f3dcdbe7fb095fa20d57023a41c7e0a3be7eee9" + "20dacd3c3a80eed7f2d6d058c79c02e22f10944f5c655f2ac1d13ed459db278c1f" +
		"0102" + "44" + "0307" + "2059261878bccf1ff9ce7813ec7474f1d8946b11586284320d8317a43ad2f9b2a0" + "2019deb23f93baa712715d7cea1f9c1d2fdeb0b9e661f431001ba5b309502a6cac" +
		"02" + "20bcb296d3daa1d0ec096ac50a57ebdc78facceb2169400df8db58666ceea5a3b4" + "20f2bbe707d1b0ca4b19d5f415f9d61cba4149fef3faf316d076c84f592ecd1955" +
		"0103" + "02" + "0407" +
		"02" + "20eef62b7371cc7d261e6e47c3996605e0dff1e7749093e37649301662092e3dc8" + "20f2bbe707d1b0ca4b19d5f415f9d61cba4149fef3faf316d076c84f592ecd1955"
	c, e := Make("t", 4, "", "s", []api.Event{begin(7), read(7, "a", "x"), write(7, "a", "x"), commit(7)}, api.Serial)
	if e != api.OK {
		t.Fatal(e)
	}
	if s, e := Bytes(c); hex.EncodeToString([]byte(s)) != want || e != api.OK {
		t.Errorf("%x, %d, want %s", s, e, want)
	}
}

func wantRefused(t *testing.T, what string, c api.Cert, e, want api.Errno) {
	t.Helper()
	if !reflect.DeepEqual(c, api.Cert{}) || e != want {
		t.Errorf("%s: %#v, %d, want %d", what, c, e, want)
	}
}

// P14.2: the errors, and which is told first; none leaves anything of a certificate.
func TestMakeRefuses(t *testing.T) {
	long := []api.Event{begin(1)}
	for len(long) < api.MaxEvents {
		long = append(long, read(1, "a", ""))
	}
	long = append(long, commit(1))
	h := lost()
	for what, c := range map[string]struct {
		h    []api.Event
		want api.Errno
	}{
		"too many events":           {long, api.ErrBig},
		"an event that may not be":  {append(lost(), api.Event{}), api.ErrArg},
		"two beginnings":            {append(lost(), begin(1)), api.ErrThere},
		"no beginning":              {h[1:], api.ErrNone},
		"an event behind an end":    {append(lost(), commit(1)), api.ErrState},
		"a transaction without end": {h[:7], api.ErrState},
	} {
		for _, level := range []int{api.Serial, api.Snapshot} {
			for _, tenant := range []string{"t", "", filler(17)} {
				for _, seq := range []int{1, 0, api.MaxSeq + 1} {
					for _, prev := range []string{"", filler(32), filler(31)} {
						for _, seed := range []string{"s", "", filler(33)} {
							made, e := Make(tenant, seq, prev, seed, c.h, level)
							wantRefused(t, what, made, e, c.want)
						}
					}
				}
			}
		}
		for _, level := range []int{math.MinInt, -1, 0, 3, 257, 1<<32 + 1, math.MaxInt} {
			made, e := Make("t", 1, "", "s", c.h, level)
			wantRefused(t, what+", at no level", made, e, api.ErrArg)
			made, e = Make("t", 1, "", "s", h, level)
			wantRefused(t, "no level", made, e, api.ErrArg)
		}
	}
	for _, h := range [][]api.Event{lost(), skew(), {begin(1), commit(1)}} {
		for _, level := range []int{api.Serial, api.Snapshot} {
			for _, seed := range []string{"", filler(33), filler(250), filler(65536)} {
				made, e := Make("t", 1, "", seed, h, level)
				wantRefused(t, "a wrong seed", made, e, api.ErrArg)
			}
			for _, tenant := range []string{"", filler(17), filler(250), filler(65536)} {
				made, e := Make(tenant, 1, "", "s", h, level)
				wantRefused(t, "a wrong name", made, e, api.ErrArg)
			}
			for _, seq := range []int{math.MinInt, -1, 0, api.MaxSeq + 1, 1<<32 + 1, math.MaxInt} {
				made, e := Make("t", seq, "", "s", h, level)
				wantRefused(t, "a wrong number", made, e, api.ErrArg)
			}
			for _, many := range []int{1, 31, 33, 64, 65536} {
				made, e := Make("t", 1, filler(many), "s", h, level)
				wantRefused(t, "a wrong sum ahead", made, e, api.ErrArg)
			}
		}
	}
}

// P14.2: chapter 7's All refuses no seed, if there is no event; all else still has to be.
func TestMakeOfNoEvents(t *testing.T) {
	for _, seed := range []string{"", "s", filler(32), filler(33)} {
		for _, level := range []int{api.Serial, api.Snapshot} {
			c, e := Make("t", 1, "", seed, nil, level)
			root, _ := tree.Root(nil)
			if e != api.OK || !Same(c, api.Cert{Tenant: "t", Seq: 1, Root: root, V: api.Verdict{Level: level, Accept: true}}) {
				t.Errorf("%#v, %d", c, e)
			}
			c, e = Make("", 1, "", seed, []api.Event{}, level)
			wantRefused(t, "no name", c, e, api.ErrArg)
		}
	}
}

// wantOwn: what was made is of the history's own root, and each proof shows its event there (P14.4).
func wantOwn(t *testing.T, c api.Cert, seed string, h []api.Event) {
	t.Helper()
	tags, _ := redact.All(seed, h)
	leaves, _ := event.Leaves(tags)
	root, _ := tree.Root(leaves)
	if c.Root != root || c.Count != len(h) {
		t.Fatalf("of %v: another root, or count: %#v", h, c)
	}
	for n, p := range c.Proofs {
		if n > 0 && p.I <= c.Proofs[n-1].I || p.Event != tags[p.I] || tree.Check(root, len(h), p.I, leaves[p.I], p.Path) != api.OK {
			t.Fatalf("of %v: the proof %#v", h, p)
		}
	}
	if c.V.Accept && len(c.Proofs) > 0 || !c.V.Accept && len(c.Proofs) == 0 {
		t.Fatalf("of %v: %d proofs of %#v", h, len(c.Proofs), c.V)
	}
	if !May(c) {
		t.Fatalf("of %v: made, and may not be: %#v", h, c)
	}
}

// P14.2, P14.4: by the document's words, of well formed histories and of others, with all that may be handed in or not.
func TestMakeByWords(t *testing.T) {
	r := rand.New(rand.NewSource(2))
	errors, ways := map[api.Errno]int{}, [4]int{}
	for range 4000 {
		h := wellFormed(r, 1+r.Intn(6), 24, 1+r.Intn(3), 20)
		if r.Intn(5) == 0 {
			h = marred(r, h)
		}
		tenant, seed, prev := filler(1+r.Intn(16)), filler(1+r.Intn(32)), filler(32*r.Intn(2))
		seq, level := []int{1, 2, 300, 70000, 1 << 20}[r.Intn(5)], 1+r.Intn(2)
		switch r.Intn(20) {
		case 0:
			tenant = filler(17 * r.Intn(2))
		case 1:
			seed = filler(33 * r.Intn(2))
		case 2:
			prev = filler(31 + 2*r.Intn(2))
		case 3:
			seq = (1<<20 + 1) * r.Intn(2)
		case 4:
			level = 3 * r.Intn(2)
		}
		c, e := Make(tenant, seq, prev, seed, h, level)
		want, wantErr := plainMake(tenant, seq, prev, seed, h, level)
		errors[e]++
		if e != wantErr || plainBytes(c) != plainBytes(want) {
			t.Fatalf("of %v: %#v, %d, want %#v, %d", h, c, e, want, wantErr)
		}
		if e != api.OK {
			wantRefused(t, "with an error", c, e, wantErr)
			continue
		}
		wantOwn(t, c, seed, h)
		switch {
		case c.V.Accept:
			ways[0]++
		case c.V.Bad.Kind != api.BNone:
			ways[1]++
		default:
			ways[1+level]++
		}
	}
	for _, n := range ways {
		if n < 80 {
			t.Errorf("too seldom: %v", ways)
		}
	}
	for _, e := range []api.Errno{api.ErrArg, api.ErrNone, api.ErrThere, api.ErrState} {
		if errors[e] < 20 {
			t.Errorf("too seldom: %v", errors)
		}
	}
}

// P14.2, R1: histories of as many events and transactions as there may be, with as long rings.
func TestMakeOfMany(t *testing.T) {
	const many = api.MaxTxn
	var h, ends []api.Event
	for txn := 1; txn <= many; txn++ {
		h, ends = append(h, begin(txn)), append(ends, commit(txn))
	}
	for txn := 1; txn <= many; txn++ {
		h = append(h, read(txn, fmt.Sprint("k", txn%many+1), ""), write(txn, fmt.Sprint("k", txn), fmt.Sprint("v", txn)))
	}
	for len(h)+len(ends) < api.MaxEvents {
		h = append(h, read(1, "nothing", ""))
	}
	h = append(h, ends...)
	c, e := Make(filler(16), api.MaxSeq, filler(32), filler(32), h, api.Serial)
	if e != api.OK || len(c.V.Ring) != many || len(c.Proofs) != 3*many || len(c.Proofs[0].Path) != 8 || c.Count != api.MaxEvents {
		t.Fatalf("%#v, %d", c, e)
	}
	wantOwn(t, c, filler(32), h)
	if s, e := Bytes(c); e != api.OK || s != plainBytes(c) {
		t.Errorf("%x, %d", s, e)
	}
	c, e = Make("t", 1, "", "s", h, api.Snapshot)
	if e != api.OK || len(c.V.Order) != many || len(c.Proofs) != 0 {
		t.Fatalf("%#v, %d", c, e)
	}
	r := rand.New(rand.NewSource(3))
	for range 20 {
		h := wellFormed(r, many, api.MaxEvents-2*many, 1+r.Intn(8), 1000)
		for _, level := range []int{api.Serial, api.Snapshot} {
			c, e := Make("t", 1, "", "s", h, level)
			want, _ := plainMake("t", 1, "", "s", h, level)
			if e != api.OK || plainBytes(c) != plainBytes(want) {
				t.Fatalf("of %v: %#v, %d, want %#v", h, c, e, want)
			}
			wantOwn(t, c, "s", h)
		}
	}
}

// untagged is a certificate without all that tags and sums change: its events have names of their shape.
func untagged(c api.Cert) string {
	c = copied(c)
	var l []api.Event
	for i := range c.Proofs {
		l = append(l, c.Proofs[i].Event)
		c.Proofs[i].Path = make([]string, len(c.Proofs[i].Path))
	}
	for i, x := range redact.Shape(l) {
		c.Proofs[i].Event = x
	}
	c.Root = ""
	return plainBytes(c)
}

// T2: by another seed, or other names (of keys, such that rise as those did, since the keys' order tells which edges come first) nothing is changed but tags and sums.
func TestMakeOfOtherNames(t *testing.T) {
	r := rand.New(rand.NewSource(4))
	shown := 0
	for range 1000 {
		h := wellFormed(r, 1+r.Intn(6), 24, 1+r.Intn(3), 40)
		other := slices.Clone(h)
		for i, x := range other {
			if x.Key != "" {
				other[i].Key = "key of " + x.Key
			}
			if x.Val != "" {
				other[i].Val = fmt.Sprint(len(x.Val), -len(x.Val), " of ", x.Val)
			}
		}
		for _, level := range []int{api.Serial, api.Snapshot} {
			a, _ := Make("t", 1, "", "s", h, level)
			b, _ := Make("t", 1, "", "s", other, level)
			c, e := Make("t", 1, "", "another seed", h, level)
			if e != api.OK || untagged(a) != untagged(b) || untagged(a) != untagged(c) {
				t.Fatalf("of %v: %#v, %#v, %#v", h, a, b, c)
			}
			if strings.Contains(plainBytes(b), "key of") || strings.Contains(plainBytes(b), " of v") {
				t.Fatalf("of %v: names are told: %#v", other, b)
			}
			if len(a.Proofs) > 0 && a.Root != b.Root && a.Root != c.Root {
				shown++
			}
		}
	}
	if shown < 100 {
		t.Errorf("too seldom: %d", shown)
	}
}

// R3, R4: what is handed in stays as it was, what stands behind it isn't read, what comes out is new, and no call remembers another one.
func TestMakeKeepsNothing(t *testing.T) {
	room := append(lost(), begin(3), write(3, "a", "z"), commit(3))
	before := slices.Clone(room)
	first, _ := Make("t", 1, "", "s", room[:8], api.Serial)
	kept := plainBytes(first)
	for i := range first.Proofs {
		_ = append(first.Proofs[i].Path, "behind")
		_ = append(first.V.Ring, edge(9, 9, 9, 9, 9))
	}
	if plainBytes(first) != kept {
		t.Error("two lists of one certificate share what stands behind them")
	}
	for i := range first.Proofs {
		first.Proofs[i].Path[0] = "other"
		if i+1 < len(first.Proofs) && first.Proofs[i+1].Path[0] == "other" {
			t.Error("two paths of one certificate are one")
		}
		first.Proofs[i] = api.Proof{}
	}
	first.V.Ring[0] = api.Edge{}
	Make("u", 2, "", "other", skew(), api.Serial)
	if again, e := Make("t", 1, "", "s", room[:8], api.Serial); e != api.OK || plainBytes(again) != kept {
		t.Errorf("a call hangs on another one, or on what was written into its answer: %#v, %d", again, e)
	}
	if !slices.Equal(room, before) {
		t.Error("the history, or what stands behind it, is written into")
	}
}
