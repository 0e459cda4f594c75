package segment

import (
	"cmp"
	"slices"

	"lethe/api"
)

// account is what a log keeps of a segment. Of a free one nothing is used: so no place in it may be.
type account struct {
	kind, used, live int
}

// settled is what comes of accounts, if just these places are live; false, if one of them may not be, or two overlap.
func settled(accounts []account, live []api.Place) ([]account, bool) {
	after := slices.Clone(accounts)
	for seg := range after {
		after[seg].live = 0
	}
	for _, p := range live {
		if !mayBe(after, p) {
			return nil, false
		}
		after[p.Seg].live += p.Len
	}
	if overlap(live) {
		return nil, false
	}
	for seg, a := range after {
		if a.kind == api.SegSealed && a.live == 0 {
			after[seg] = account{kind: api.SegFree}
		}
	}
	return after, true
}

func mayBe(accounts []account, p api.Place) bool {
	if p.Seg < 0 || p.Seg >= len(accounts) || p.Off < 0 || p.Len < 1 {
		return false
	}
	// Not Off and Len together, which may be more than an int holds.
	return p.Len <= accounts[p.Seg].used-p.Off
}

// overlap tells whether two places that may be do.
func overlap(places []api.Place) bool {
	// In order: if any two overlap, then two that are neighbours do. A copy: what was handed in stays as it is.
	inOrder := slices.Clone(places)
	slices.SortFunc(inOrder, func(a, b api.Place) int {
		return cmp.Or(cmp.Compare(a.Seg, b.Seg), cmp.Compare(a.Off, b.Off))
	})
	for i := 1; i < len(inOrder); i++ {
		before, p := inOrder[i-1], inOrder[i]
		if before.Seg == p.Seg && before.Off+before.Len > p.Off {
			return true
		}
	}
	return false
}
