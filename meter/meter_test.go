package meter

import (
	"fmt"
	"math"
	"slices"
	"testing"

	"cartouche/api"
)

func shown(m api.Meter) string { return fmt.Sprintf("At %d, Left %d", m.At, m.Left) }

func at(now uint64, left int) api.Meter { return api.Meter{At: now, Left: left} }

func wantMeter(t *testing.T, what string, m, want api.Meter) {
	t.Helper()
	if m != want {
		t.Errorf("%s: %s, want %s", what, shown(m), shown(want))
	}
}

func wantLeft(t *testing.T, m api.Meter, now uint64, want int) {
	t.Helper()
	if n := Left(m, now); n != want {
		t.Errorf("Left of %s, %d: %d, want %d", shown(m), now, n, want)
	}
}

func wantCharge(t *testing.T, m api.Meter, now uint64, cost int, want api.Meter, err api.Errno) {
	t.Helper()
	k, e := Charge(m, now, cost)
	what := fmt.Sprintf("Charge of %s, %d, %d", shown(m), now, cost)
	wantMeter(t, what, k, want)
	if e != err {
		t.Errorf("%s: %d, want %d", what, e, err)
	}
}

func wantSpend(t *testing.T, now uint64, costs []int, want []bool) {
	t.Helper()
	if l := Spend(now, costs); !slices.Equal(l, want) {
		t.Errorf("Spend of %d, %d: %t, want %t", now, costs, l, want)
	}
}

// P18.1: a whole one has 150 left, at any time.
func TestFull(t *testing.T) {
	for _, now := range []uint64{0, 1, 150, math.MaxInt64, 1 << 63, math.MaxUint64} {
		wantMeter(t, fmt.Sprintf("Full of %d", now), Full(now), at(now, 150))
	}
}

// P18.1: what is left is the meter's own up to its time, and all of it above that; the greatest time has none above it.
func TestLeft(t *testing.T) {
	wantLeft(t, at(5, 7), 5, 7)
	wantLeft(t, at(5, 7), 4, 7)
	wantLeft(t, at(5, 7), 0, 7)
	wantLeft(t, at(5, 7), 6, 150)
	wantLeft(t, at(5, 7), math.MaxUint64, 150)
	wantLeft(t, at(0, 0), 0, 0)
	wantLeft(t, at(0, 0), 1, 150)
	wantLeft(t, at(math.MaxUint64, 7), math.MaxUint64, 7)
	wantLeft(t, at(math.MaxUint64-1, 7), math.MaxUint64, 150)
	wantLeft(t, at(math.MaxUint64, 7), 0, 7)
	wantLeft(t, at(1<<63-1, 7), 1<<63, 150)
	wantLeft(t, at(1<<63, 7), 1<<63-1, 7)
	wantLeft(t, at(5, -3), 5, -3)
	wantLeft(t, at(5, -3), 6, 150)
	wantLeft(t, at(5, 151), 5, 151)
	wantLeft(t, at(5, 151), 6, 150)
	wantLeft(t, at(5, math.MaxInt), 5, math.MaxInt)
	wantLeft(t, at(5, math.MinInt), 4, math.MinInt)
	wantLeft(t, api.Meter{}, 0, 0)
}

// P18.1: a cost that is left is taken off, to the last; the time is the greater one.
func TestCharge(t *testing.T) {
	wantCharge(t, at(5, 7), 5, 3, at(5, 4), api.OK)
	wantCharge(t, at(5, 7), 5, 7, at(5, 0), api.OK)
	wantCharge(t, at(5, 7), 5, 0, at(5, 7), api.OK)
	wantCharge(t, at(5, 0), 5, 0, at(5, 0), api.OK)
	wantCharge(t, at(5, 7), 4, 3, at(5, 4), api.OK)
	wantCharge(t, at(5, 7), 0, 7, at(5, 0), api.OK)
	wantCharge(t, at(5, 7), 6, 3, at(6, 147), api.OK)
	wantCharge(t, at(5, 7), 9, 150, at(9, 0), api.OK)
	wantCharge(t, at(5, 7), 6, 0, at(6, 150), api.OK)
	wantCharge(t, at(0, 0), math.MaxUint64, 150, at(math.MaxUint64, 0), api.OK)
	wantCharge(t, at(math.MaxUint64, 150), math.MaxUint64, 1, at(math.MaxUint64, 149), api.OK)
	wantCharge(t, at(math.MaxUint64, 150), 0, 1, at(math.MaxUint64, 149), api.OK)
}

// P18.1: a cost below 0 is ErrArg, and nothing is changed, not even the time; whatever is left.
func TestChargeBelowNothing(t *testing.T) {
	for _, cost := range []int{-1, -2, -150, math.MinInt + 1, math.MinInt} {
		for _, m := range []api.Meter{at(5, 7), at(5, 0), at(5, 150), at(5, -3), at(5, math.MinInt), at(5, math.MaxInt), {}} {
			for _, now := range []uint64{0, 4, 5, 6, math.MaxUint64} {
				wantCharge(t, m, now, cost, m, api.ErrArg)
			}
		}
	}
}

// P18.1: a cost above what is left is ErrQuota, and nothing is changed, not even the time.
func TestChargeTooMuch(t *testing.T) {
	wantCharge(t, at(5, 7), 5, 8, at(5, 7), api.ErrQuota)
	wantCharge(t, at(5, 7), 4, 8, at(5, 7), api.ErrQuota)
	wantCharge(t, at(5, 0), 5, 1, at(5, 0), api.ErrQuota)
	wantCharge(t, at(5, 150), 5, 151, at(5, 150), api.ErrQuota)
	wantCharge(t, at(5, 7), 6, 151, at(5, 7), api.ErrQuota)
	wantCharge(t, at(5, 0), 6, 151, at(5, 0), api.ErrQuota)
	wantCharge(t, at(5, 7), 5, math.MaxInt, at(5, 7), api.ErrQuota)
	wantCharge(t, at(5, 7), 6, math.MaxInt, at(5, 7), api.ErrQuota)
	wantCharge(t, at(math.MaxUint64, 0), math.MaxUint64, 1, at(math.MaxUint64, 0), api.ErrQuota)
	wantCharge(t, api.Meter{}, 0, 1, api.Meter{}, api.ErrQuota)
}

// P18.1: a meter made by hand with less than nothing, or more than the budget, is taken at its words up to its time. R5: nothing goes round.
func TestChargeByHand(t *testing.T) {
	wantCharge(t, at(5, -3), 5, 0, at(5, -3), api.ErrQuota)
	wantCharge(t, at(5, -3), 5, 1, at(5, -3), api.ErrQuota)
	wantCharge(t, at(5, -2), 5, math.MaxInt, at(5, -2), api.ErrQuota)
	wantCharge(t, at(5, math.MinInt), 5, 1, at(5, math.MinInt), api.ErrQuota)
	wantCharge(t, at(5, math.MinInt), 5, math.MaxInt, at(5, math.MinInt), api.ErrQuota)
	wantCharge(t, at(5, math.MinInt), 6, 1, at(6, 149), api.OK)
	wantCharge(t, at(5, 200), 5, 160, at(5, 40), api.OK)
	wantCharge(t, at(5, 200), 6, 160, at(5, 200), api.ErrQuota)
	wantCharge(t, at(5, 200), 6, 10, at(6, 140), api.OK)
	wantCharge(t, at(5, math.MaxInt), 5, math.MaxInt, at(5, 0), api.OK)
	wantCharge(t, at(5, math.MaxInt-1), 5, math.MaxInt, at(5, math.MaxInt-1), api.ErrQuota)
}

// P18.2: from a whole meter on each cost is charged, in order; what is refused takes nothing off.
func TestSpend(t *testing.T) {
	for _, now := range []uint64{0, 1, 7, 1 << 63, math.MaxUint64} {
		wantSpend(t, now, nil, nil)
		wantSpend(t, now, []int{}, nil)
		wantSpend(t, now, []int{0}, []bool{true})
		wantSpend(t, now, []int{150}, []bool{true})
		wantSpend(t, now, []int{151}, []bool{false})
		wantSpend(t, now, []int{-1}, []bool{false})
		wantSpend(t, now, []int{151, 150, 0, 1}, []bool{false, true, true, false})
		wantSpend(t, now, []int{1, 150, 149, 1}, []bool{true, false, true, false})
		wantSpend(t, now, []int{150, -1, 1, 0}, []bool{true, false, false, true})
		wantSpend(t, now, []int{150, -150, 150}, []bool{true, false, false})
		wantSpend(t, now, []int{math.MaxInt, 150, math.MaxInt, math.MinInt, 0}, []bool{false, true, false, false, true})
		wantSpend(t, now, []int{50, 60, 70, 41, 40, 1}, []bool{true, true, false, false, true, false})
	}
}

// P18.2: many costs, as many answers.
func TestSpendMany(t *testing.T) {
	costs, want := make([]int, 1000), make([]bool, 1000)
	for i := range costs {
		costs[i], want[i] = 1, i < 150
	}
	wantSpend(t, 3, costs, want)
	for i := range costs {
		costs[i], want[i] = 0, true
	}
	wantSpend(t, 3, costs, want)
}

// R3, R4: what is handed in stays as it is, answers share nothing, and nothing hangs on calls ahead.
func TestNothingIsKept(t *testing.T) {
	costs := []int{100, 100, 50}
	for range 3 {
		l, k := Spend(2, costs), Spend(2, costs)
		l[0] = false
		if !slices.Equal(k, []bool{true, false, true}) || !slices.Equal(costs, []int{100, 100, 50}) {
			t.Errorf("%t of %d", k, costs)
		}
		wantCharge(t, at(2, 10), 2, 10, at(2, 0), api.OK)
		wantCharge(t, at(2, 10), 3, 10, at(3, 140), api.OK)
		wantLeft(t, at(2, 10), 2, 10)
		wantMeter(t, "Full", Full(2), at(2, 150))
	}
	l := Spend(2, costs)
	costs[1] = 0
	if !slices.Equal(l, []bool{true, false, true}) {
		t.Errorf("an answer hangs on what is written later: %t", l)
	}
}

// The document's example.
func TestExamples(t *testing.T) {
	wantSpend(t, 0, []int{100, 100, 50}, []bool{true, false, true})
}
