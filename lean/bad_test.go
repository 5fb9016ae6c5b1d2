package lean

import (
	"fmt"
	"math"
	"testing"

	"cartouche/api"
)

// noBads are kinds of nothing that should not be seen.
var noBads = []int{math.MinInt, -1, api.BNone, 5, 6, 257, 258, 259, 260, 1<<32 + 1, math.MaxInt}

// wantBad holds Bad, by hand and by the words.
func wantBad(t *testing.T, what string, l []api.Proof, kind, i, j int, want bool) {
	t.Helper()
	b := api.Bad{Kind: kind, I: i, J: j}
	if is := Bad(l, b); is != want {
		t.Errorf("%s: Bad of %v, %v: %t", what, l, b, is)
	}
	if plainOf(l).bad(b) != want {
		t.Errorf("%s: by the words Bad of %v, %v is %t", what, l, b, !want)
	}
}

// onlyOf: the proofs show that kind at these places, and no other one there; and not without those of these proofs that are told, one by one.
func onlyOf(t *testing.T, l []api.Proof, kind, i, j int, needed ...int) {
	t.Helper()
	for other := api.BAbort; other <= api.BLater; other++ {
		wantBad(t, "a kind", l, other, i, j, other == kind)
	}
	for _, other := range noBads {
		wantBad(t, "no kind", l, other, i, j, false)
	}
	wantBad(t, "nothing is proved", nil, kind, i, j, false)
	wantBad(t, "turned", l, kind, j, i, false)
	for n := range l {
		shows := true
		for _, m := range needed {
			shows = shows && m != n
		}
		wantBad(t, fmt.Sprint("without the proof ", n), without(l, n), kind, i, j, shows)
		elsewhere := append(without(l, n), at(1000, l[n].Event))
		if l[n].I == i || l[n].I == j {
			wantBad(t, fmt.Sprint("the proof ", n, " is of elsewhere"), elsewhere, kind, i, j, false)
		}
	}
	for _, far := range []int{math.MinInt, -1, 99, 1000, math.MaxInt} {
		wantBad(t, "no event at I", l, kind, far, j, false)
		wantBad(t, "no event at J", l, kind, i, far, false)
		wantBad(t, "no event at both", l, kind, far, far, false)
	}
}

// P15.2: what a transaction wrote that was given up.
func TestBadAbort(t *testing.T) {
	write, abort, read, commit := writes(1, "a", "x"), aborts(1), reads(2, "a", "x"), commits(2)
	onlyOf(t, []api.Proof{at(1, write), at(2, abort), at(4, read), at(5, commit)}, api.BAbort, 4, 1, 0, 1, 2, 3)
	onlyOf(t, []api.Proof{at(5, commit), at(3, begins(2)), at(4, read), at(2, abort), at(1, write)}, api.BAbort, 4, 1, 0, 2, 3, 4)
	for _, c := range []struct {
		what string
		l    []api.Proof
		want bool
	}{
		{"given up behind the read", []api.Proof{at(1, write), at(4, read), at(5, commit), at(6, abort)}, true},
		{"given up behind nothing", []api.Proof{at(1, write), at(-9, abort), at(4, read), at(5, commit)}, true},
		{"the writer was committed", []api.Proof{at(1, write), at(2, commits(1)), at(4, read), at(5, commit)}, false},
		{"committed first", []api.Proof{at(1, write), at(3, commits(1)), at(2, abort), at(4, read), at(5, commit)}, false},
		{"given up first", []api.Proof{at(1, write), at(2, abort), at(0, commits(1)), at(4, read), at(5, commit)}, true},
		{"another one was given up", []api.Proof{at(1, write), at(2, aborts(3)), at(4, read), at(5, commit)}, false},
		{"the reader was given up", []api.Proof{at(1, write), at(2, abort), at(4, read), at(5, aborts(2))}, false},
		{"the reader was given up first", []api.Proof{at(1, write), at(2, abort), at(4, read), at(6, aborts(2)), at(5, commit)}, false},
		{"the reader was committed first", []api.Proof{at(1, write), at(2, abort), at(4, read), at(5, commit), at(3, aborts(2))}, true},
		{"committed ahead of the read", []api.Proof{at(1, write), at(2, abort), at(3, commit), at(4, read)}, false},
		{"committed ahead of the read, and again", []api.Proof{at(1, write), at(2, abort), at(3, commit), at(4, read), at(5, commit)}, false},
		{"committed behind the read, and ahead", []api.Proof{at(5, commit), at(1, write), at(2, abort), at(3, commit), at(4, read)}, true},
		{"committed where it reads", []api.Proof{at(1, write), at(2, abort), at(4, read), at(4, commit)}, false},
		{"committed nowhere", []api.Proof{at(1, write), at(2, abort), at(4, read), at(-1, commit), at(5, commit)}, false},
		{"another one was committed", []api.Proof{at(1, write), at(2, abort), at(4, read), at(5, commits(3))}, false},
		{"another key", []api.Proof{at(1, writes(1, "b", "x")), at(2, abort), at(4, read), at(5, commit)}, false},
		{"another value", []api.Proof{at(1, writes(1, "a", "y")), at(2, abort), at(4, read), at(5, commit)}, false},
		{"no value", []api.Proof{at(1, writes(1, "a", "")), at(2, abort), at(4, reads(2, "a", "")), at(5, commit)}, true},
		{"a read twice", []api.Proof{at(1, reads(1, "a", "x")), at(2, abort), at(4, read), at(5, commit)}, false},
		{"a write twice", []api.Proof{at(1, write), at(2, abort), at(4, writes(2, "a", "x")), at(5, commit)}, false},
		{"a beginning", []api.Proof{at(1, api.Event{Kind: api.EBegin, Txn: 1, Key: "a", Val: "x"}), at(2, abort), at(4, read), at(5, commit)}, false},
		{"another event first at I", []api.Proof{at(1, write), at(2, abort), at(4, begins(2)), at(4, read), at(5, commit)}, false},
		{"another event then at I", []api.Proof{at(1, write), at(2, abort), at(4, read), at(4, begins(2)), at(5, commit)}, true},
		{"another event first at J", []api.Proof{at(1, writes(1, "a", "y")), at(1, write), at(2, abort), at(4, read), at(5, commit)}, false},
		{"another event then at J", []api.Proof{at(1, write), at(1, writes(1, "a", "y")), at(2, abort), at(4, read), at(5, commit)}, true},
		{"its own, that both ends are told of", []api.Proof{at(1, writes(2, "a", "x")), at(2, aborts(2)), at(4, read), at(5, commit)}, false},
	} {
		wantBad(t, c.what, c.l, api.BAbort, 4, 1, c.want)
	}
	for _, below := range []int{-1, -2, math.MinInt} {
		wantBad(t, "I is below 0", []api.Proof{at(1, write), at(2, abort), at(below, read), at(5, commit)}, api.BAbort, below, 1, false)
		wantBad(t, "J is below 0", []api.Proof{at(below, write), at(2, abort), at(4, read), at(5, commit)}, api.BAbort, 4, below, true)
	}
	wantBad(t, "I is 0, the commit 1", []api.Proof{at(9, write), at(2, abort), at(0, read), at(1, commit)}, api.BAbort, 0, 9, true)
	wantBad(t, "I is 0, the commit 0", []api.Proof{at(9, write), at(2, abort), at(0, read), at(0, commit)}, api.BAbort, 0, 9, false)
}

// P15.2: what its own writer wrote over.
func TestBadMiddle(t *testing.T) {
	write, over, read, commit := writes(1, "a", "x"), writes(1, "a", "y"), reads(2, "a", "x"), commits(2)
	onlyOf(t, []api.Proof{at(1, write), at(2, over), at(3, commits(1)), at(5, read), at(6, commit)}, api.BMiddle, 5, 2, 0, 1, 3, 4)
	onlyOf(t, []api.Proof{at(6, commit), at(5, read), at(2, over), at(1, write)}, api.BMiddle, 5, 2, 0, 1, 2, 3)
	for _, c := range []struct {
		what string
		l    []api.Proof
		want bool
	}{
		{"given up", []api.Proof{at(1, write), at(2, over), at(3, aborts(1)), at(5, read), at(6, commit)}, true},
		{"written ahead of nothing", []api.Proof{at(-1, write), at(2, over), at(5, read), at(6, commit)}, true},
		{"written behind", []api.Proof{at(3, write), at(2, over), at(5, read), at(6, commit)}, false},
		{"written there", []api.Proof{at(2, over), at(2, write), at(5, read), at(6, commit)}, false},
		{"written by another one", []api.Proof{at(1, writes(3, "a", "x")), at(2, over), at(5, read), at(6, commit)}, false},
		{"written by another one first", []api.Proof{at(1, writes(3, "a", "x")), at(1, write), at(2, over), at(5, read), at(6, commit)}, false},
		{"written by another one then", []api.Proof{at(1, write), at(0, writes(3, "a", "x")), at(2, over), at(5, read), at(6, commit)}, true},
		{"written behind first", []api.Proof{at(3, write), at(1, write), at(2, over), at(5, read), at(6, commit)}, false},
		{"written by its reader", []api.Proof{at(1, writes(2, "a", "x")), at(2, over), at(5, read), at(6, commit)}, false},
		{"another key was written", []api.Proof{at(1, writes(1, "b", "x")), at(2, over), at(5, read), at(6, commit)}, false},
		{"another value was written", []api.Proof{at(1, writes(1, "a", "z")), at(2, over), at(5, read), at(6, commit)}, false},
		{"another key was written over", []api.Proof{at(1, write), at(2, writes(1, "b", "y")), at(5, read), at(6, commit)}, false},
		{"the same was written again", []api.Proof{at(1, write), at(2, write), at(5, read), at(6, commit)}, false},
		{"another one wrote it over", []api.Proof{at(1, write), at(2, writes(3, "a", "y")), at(5, read), at(6, commit)}, false},
		{"nobody wrote it, and the transaction 0 wrote it over", []api.Proof{at(2, writes(0, "a", "y")), at(5, read), at(6, commit)}, false},
		{"it was read", []api.Proof{at(1, reads(1, "a", "x")), at(2, over), at(5, read), at(6, commit)}, false},
		{"another one was read behind it", []api.Proof{at(1, write), at(2, reads(1, "a", "y")), at(5, read), at(6, commit)}, false},
		{"nothing was read", []api.Proof{at(1, writes(1, "a", "")), at(2, over), at(5, reads(2, "a", "")), at(6, commit)}, false},
		{"written over by nothing", []api.Proof{at(1, write), at(2, writes(1, "a", "")), at(5, read), at(6, commit)}, true},
		{"all are the reader's", []api.Proof{at(1, writes(2, "a", "x")), at(2, writes(2, "a", "y")), at(5, read), at(6, commit)}, false},
		{"the reader was given up", []api.Proof{at(1, write), at(2, over), at(5, read), at(6, aborts(2))}, false},
		{"committed ahead of the read", []api.Proof{at(1, write), at(2, over), at(5, read), at(4, commit)}, false},
	} {
		wantBad(t, c.what, c.l, api.BMiddle, 5, 2, c.want)
	}
	wantBad(t, "written over behind the read", []api.Proof{at(1, write), at(8, over), at(5, read), at(6, commit)}, api.BMiddle, 5, 8, true)
	wantBad(t, "written behind the read", []api.Proof{at(7, write), at(8, over), at(5, read), at(6, commit)}, api.BMiddle, 5, 8, true)
	wantBad(t, "both below 0", []api.Proof{at(-8, write), at(-7, over), at(5, read), at(6, commit)}, api.BMiddle, 5, -7, true)
	wantBad(t, "both below 0, turned", []api.Proof{at(-7, write), at(-8, over), at(5, read), at(6, commit)}, api.BMiddle, 5, -8, false)
	wantBad(t, "the write itself", []api.Proof{at(1, write), at(2, over), at(5, read), at(6, commit)}, api.BMiddle, 5, 1, false)
}

// P15.2: not its own last write.
func TestBadOwn(t *testing.T) {
	own, read, commit := writes(2, "a", "y"), reads(2, "a", "x"), commits(2)
	onlyOf(t, []api.Proof{at(1, writes(1, "a", "x")), at(4, own), at(5, read), at(6, commit)}, api.BOwn, 5, 4, 0, 1, 2, 3)
	onlyOf(t, []api.Proof{at(2, writes(2, "a", "x")), at(4, own), at(5, read), at(6, commit)}, api.BOwn, 5, 4, 0, 1, 2, 3)
	onlyOf(t, []api.Proof{at(4, own), at(5, reads(2, "a", "")), at(6, commit)}, api.BOwn, 5, 4, 0, 1, 2)
	onlyOf(t, []api.Proof{at(7, writes(3, "b", "")), at(4, own), at(5, reads(2, "a", "")), at(6, commit)}, api.BOwn, 5, 4, 1, 2, 3)
	for _, c := range []struct {
		what string
		w    api.Proof
		want bool
	}{
		{"another one's, between", at(4, writes(1, "a", "x")), true},
		{"another one's, at J", at(3, writes(1, "a", "x")), true},
		{"another one's, at I", at(5, writes(1, "a", "x")), true},
		{"another one's, behind", at(9, writes(1, "a", "x")), true},
		{"another one's, below 0", at(-9, writes(1, "a", "x")), true},
		{"its own, ahead of J", at(2, writes(2, "a", "x")), true},
		{"its own, at J", at(3, writes(2, "a", "x")), false},
		{"its own, between", at(4, writes(2, "a", "x")), false},
		{"its own, at I", at(5, writes(2, "a", "x")), false},
		{"its own, behind I", at(6, writes(2, "a", "x")), true},
		{"its own, below 0", at(-1, writes(2, "a", "x")), true},
		{"another key", at(1, writes(1, "b", "x")), false},
		{"another value", at(1, writes(1, "a", "z")), false},
		{"a read", at(1, reads(1, "a", "x")), false},
	} {
		// The proof of who wrote it stands behind those of I and J: so they stay the first ones of their places.
		l := []api.Proof{at(3, own), at(5, read), at(7, commit), c.w}
		wantBad(t, c.what, l, api.BOwn, 5, 3, c.want)
		wantBad(t, c.what+", and then another one's", append(l, at(1, writes(1, "a", "x"))), api.BOwn, 5, 3, c.want || c.w.Event != writes(2, "a", "x"))
		wantBad(t, c.what+", and nothing was read", append([]api.Proof{at(5, reads(2, "a", ""))}, l...), api.BOwn, 5, 3, true)
	}
	l := []api.Proof{at(1, writes(1, "a", "x")), at(4, own), at(5, read), at(6, commit)}
	for _, c := range []struct {
		what string
		n    int
		p    api.Proof
		want bool
	}{
		{"another one wrote", 1, at(4, writes(1, "a", "y")), false},
		{"another key", 1, at(4, writes(2, "b", "y")), false},
		{"what was read", 1, at(4, writes(2, "a", "x")), false},
		{"nothing was written", 1, at(4, writes(2, "a", "")), true},
		{"a read", 1, at(4, reads(2, "a", "y")), false},
		{"given up", 3, at(6, aborts(2)), false},
		{"committed where it reads", 3, at(5, commit), false},
		{"committed between", 3, at(4, commit), false},
		{"another one was committed", 3, at(6, commits(1)), false},
	} {
		other := append([]api.Proof{}, l...)
		other[c.n] = c.p
		wantBad(t, c.what, other, api.BOwn, 5, 4, c.want)
	}
	wantBad(t, "behind the read", []api.Proof{at(1, writes(1, "a", "x")), at(7, own), at(5, read), at(8, commit)}, api.BOwn, 5, 7, false)
	wantBad(t, "behind the read, that is empty", []api.Proof{at(7, own), at(5, reads(2, "a", "")), at(8, commit)}, api.BOwn, 5, 7, false)
	wantBad(t, "J is below 0", []api.Proof{at(1, writes(1, "a", "x")), at(-4, own), at(5, read), at(6, commit)}, api.BOwn, 5, -4, true)
	wantBad(t, "both are below 0", []api.Proof{at(1, writes(1, "a", "x")), at(-4, own), at(-3, read), at(6, commit)}, api.BOwn, -3, -4, false)
}

// P15.2: its own write, that came later.
func TestBadLater(t *testing.T) {
	read, own, commit := reads(7, "a", "x"), writes(7, "a", "x"), commits(7)
	onlyOf(t, []api.Proof{at(1, read), at(2, own), at(3, commit)}, api.BLater, 1, 2, 0, 1, 2)
	onlyOf(t, []api.Proof{at(3, commit), at(1, read), at(9, own)}, api.BLater, 1, 9, 0, 1, 2)
	for _, c := range []struct {
		what string
		l    []api.Proof
		want bool
	}{
		{"another one's", []api.Proof{at(1, read), at(2, writes(8, "a", "x")), at(3, commit)}, false},
		{"another key", []api.Proof{at(1, read), at(2, writes(7, "b", "x")), at(3, commit)}, false},
		{"another value", []api.Proof{at(1, read), at(2, writes(7, "a", "y")), at(3, commit)}, false},
		{"no value", []api.Proof{at(1, reads(7, "a", "")), at(2, writes(7, "a", "")), at(3, commit)}, true},
		{"a read", []api.Proof{at(1, read), at(2, read), at(3, commit)}, false},
		{"given up", []api.Proof{at(1, read), at(2, own), at(3, aborts(7))}, false},
		{"committed at once", []api.Proof{at(1, read), at(2, own), at(1, commit)}, false},
		{"committed ahead", []api.Proof{at(1, read), at(2, own), at(0, commit)}, false},
		{"committed with the write", []api.Proof{at(1, read), at(2, own), at(2, commit)}, true},
		{"written ahead, too", []api.Proof{at(0, own), at(1, read), at(2, own), at(3, commit)}, true},
	} {
		wantBad(t, c.what, c.l, api.BLater, 1, 2, c.want)
	}
	wantBad(t, "ahead", []api.Proof{at(1, own), at(2, read), at(3, commit)}, api.BLater, 2, 1, false)
	wantBad(t, "I is 0", []api.Proof{at(0, read), at(1, own), at(2, commit)}, api.BLater, 0, 1, true)
	wantBad(t, "I is below 0", []api.Proof{at(-1, read), at(1, own), at(2, commit)}, api.BLater, -1, 1, false)
	wantBad(t, "far away", []api.Proof{at(math.MaxInt-2, read), at(math.MaxInt, own), at(math.MaxInt-1, commit)}, api.BLater, math.MaxInt-2, math.MaxInt, true)
}
