package cert

import (
	"cartouche/api"
	"cartouche/event"
)

// maxPath is how many sums a path has at most: as many as stand beside a way in a tree of MaxLeaves.
const maxPath = 12

func verdictMay(v api.Verdict) bool {
	return (v.Level == api.Serial || v.Level == api.Snapshot) &&
		allMay(v.Order, api.MaxTxn, isTxn) &&
		within(v.Bad.Kind, api.BNone, api.BLater) && isPlace(v.Bad.I) && isPlace(v.Bad.J) &&
		allMay(v.Ring, api.MaxRing, edgeMay)
}

func edgeMay(e api.Edge) bool {
	return within(e.Kind, api.GWrite, api.GOver) && isTxn(e.From) && isTxn(e.To) && isPlace(e.I) && isPlace(e.J)
}

func proofMay(p api.Proof) bool {
	return isPlace(p.I) && event.May(p.Event) && allMay(p.Path, maxPath, isSum)
}

func isTxn(n int) bool { return within(n, 1, api.MaxTxn) }

func isPlace(i int) bool { return within(i, 0, api.MaxEvents-1) }

func isSum(s string) bool { return len(s) == api.Digest }

func within(n, least, most int) bool { return n >= least && n <= most }

// allMay: are they no more than that, and may each one be?
func allMay[T any](l []T, most int, may func(T) bool) bool {
	if len(l) > most {
		return false
	}
	for _, one := range l {
		if !may(one) {
			return false
		}
	}
	return true
}
