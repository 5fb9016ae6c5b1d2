package meter

import (
	"math/big"

	"cartouche/api"
)

// What follows is the document's words again, with nothing of the package, in whole numbers of any size.

// whole is a number, where none goes round.
func whole(n int) *big.Int { return big.NewInt(int64(n)) }

// plainLeft is how much is left.
func plainLeft(m api.Meter, now uint64) *big.Int {
	if now <= m.At {
		return whole(m.Left)
	}
	return whole(150)
}

// plainCharge takes work off.
func plainCharge(m api.Meter, now uint64, cost int) (api.Meter, api.Errno) {
	left := plainLeft(m, now)
	if cost < 0 {
		return m, api.ErrArg
	}
	if whole(cost).Cmp(left) > 0 {
		return m, api.ErrQuota
	}
	at := m.At
	if now > at {
		at = now
	}
	return api.Meter{At: at, Left: int(left.Sub(left, whole(cost)).Int64())}, api.OK
}

// plainSpend tells of each cost whether it is spent: it is, if it isn't below 0 and what was spent stays within the budget with it. The time tells nothing there.
func plainSpend(costs []int) []bool {
	spent := whole(0)
	var l []bool
	for _, cost := range costs {
		with := new(big.Int).Add(spent, whole(cost))
		may := cost >= 0 && with.Cmp(whole(150)) <= 0
		if may {
			spent = with
		}
		l = append(l, may)
	}
	return l
}
