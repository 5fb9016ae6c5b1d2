package meter

import (
	"math"
	"math/rand"
	"slices"
	"testing"

	"cartouche/api"
)

// numbers are those by which something changes, and those at the ends.
var numbers = []int{math.MinInt, math.MinInt + 1, -151, -150, -1, 0, 1, 2, 75, 149, 150, 151, 300, math.MaxInt - 1, math.MaxInt}

// times are those at the ends, and some in between.
var times = []uint64{0, 1, 2, 149, 150, 151, math.MaxInt64, 1 << 63, math.MaxUint64 - 1, math.MaxUint64}

// P18.1: all meters, times and costs of these numbers, against the document's words.
func TestAllCharges(t *testing.T) {
	met := map[api.Errno]int{}
	for _, was := range times {
		for _, left := range numbers {
			for _, now := range times {
				m := at(was, left)
				wantLeft(t, m, now, int(plainLeft(m, now).Int64()))
				for _, cost := range numbers {
					want, err := plainCharge(m, now, cost)
					wantCharge(t, m, now, cost, want, err)
					met[err]++
				}
			}
		}
	}
	for _, e := range []api.Errno{api.OK, api.ErrArg, api.ErrQuota} {
		if met[e] < 1000 {
			t.Errorf("%d met %d times", e, met[e])
		}
	}
}

// P18.2: all rows of up to four of these costs.
func TestAllShortRows(t *testing.T) {
	var onward func(l []int)
	onward = func(l []int) {
		wantSpend(t, uint64(len(l)), l, plainSpend(l))
		if len(l) == 4 {
			return
		}
		for _, cost := range numbers {
			onward(append(slices.Clip(l), cost))
		}
	}
	onward(nil)
}

// P18.2: rows at random: each answer is that of Charge, one behind the other, too.
func TestRowsAtRandom(t *testing.T) {
	r := rand.New(rand.NewSource(18))
	for range 2000 {
		costs := make([]int, r.Intn(40))
		for i := range costs {
			costs[i] = r.Intn(30) - 3
		}
		now := times[r.Intn(len(times))]
		wantSpend(t, now, costs, plainSpend(costs))
		m := Full(now)
		for i, yes := range Spend(now, costs) {
			k, e := Charge(m, now, costs[i])
			if m = k; yes != (e == api.OK) {
				t.Fatalf("Spend of %d, %d: %t at %d, Charge tells %d", now, costs, yes, i, e)
			}
		}
	}
}

// someCost is one, oftener a small one.
func someCost(r *rand.Rand) int {
	if r.Intn(4) == 0 {
		return numbers[r.Intn(len(numbers))]
	}
	return r.Intn(60)
}

// P18.3: while time goes on, no more than the budget is spent at one time, all that is left of it may be spent, and the next time has it whole.
func TestWhoWaitsHasItWhole(t *testing.T) {
	r := rand.New(rand.NewSource(183))
	refused, emptied, waited := 0, 0, 0
	for range 300 {
		now := times[r.Intn(len(times))]
		m, spent := Full(now), 0
		for range 100 {
			if r.Intn(5) == 0 && now < math.MaxUint64 {
				now, spent = now+1, 0
				waited++
				wantLeft(t, m, now, 150)
				wantCharge(t, m, now, 150, at(now, 0), api.OK)
				wantCharge(t, m, now, 151, m, api.ErrQuota)
			}
			wantLeft(t, m, now, 150-spent)
			cost := someCost(r)
			if r.Intn(8) == 0 {
				cost = 150 - spent
			}
			k, e := Charge(m, now, cost)
			if m = k; e == api.OK {
				spent += cost
			}
			switch {
			case e == api.OK && (cost < 0 || spent > 150):
				t.Fatalf("%d spent at %d, with %d", spent, now, cost)
			case e != api.OK && cost >= 0 && cost <= 150-spent:
				t.Fatalf("%d refused at %d, behind %d: %d", cost, now, spent, e)
			case e != api.OK:
				refused++
			case spent == 150:
				emptied++
			}
		}
	}
	if refused < 5000 || emptied < 1000 || waited < 3000 {
		t.Errorf("%d refused, %d emptied, %d waited", refused, emptied, waited)
	}
}

// P18.3: who asks at times that go back spends of the meter's own time: going back gives nothing.
func TestGoingBackGivesNothing(t *testing.T) {
	r := rand.New(rand.NewSource(1830))
	back := 0
	for range 300 {
		m := Full(0)
		spent := map[uint64]int{}
		for range 100 {
			now := uint64(r.Intn(6))
			was := m.At
			cost := someCost(r)
			k, e := Charge(m, now, cost)
			if m = k; e != api.OK {
				continue
			}
			if m.At != max(was, now) {
				t.Fatalf("%s behind one of %d, at %d", shown(m), was, now)
			}
			if now < was {
				back++
			}
			spent[m.At] += cost
			if spent[m.At] > 150 || m.Left != 150-spent[m.At] {
				t.Fatalf("%s, with %d spent", shown(m), spent[m.At])
			}
		}
	}
	if back < 1000 {
		t.Errorf("%d went back", back)
	}
}
