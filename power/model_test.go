package power

import (
	"math"
	"testing"

	"lethe/api"
)

// Calls that are no cut stand among the cuts' numbers as these.
const (
	spend   = math.MinInt
	restore = math.MinInt + 1
)

// step is one call on a power and on the chapter's words; false, if these answer otherwise.
func step(p *Power, m *plain, n int) bool {
	same := true
	switch n {
	case spend:
		same = p.Spend() == m.spend()
	case restore:
		p.Restore()
		m.restore()
	default:
		p.Cut(n)
		m.cut(n)
	}
	return same && all(p) == m.told()
}

// P11.1 to P11.5: all short rows of calls.
func TestAllShortRows(t *testing.T) {
	calls := []int{spend, restore, -1, 0, 1, 2}
	const long = 7
	rows := 1
	for range long {
		rows *= len(calls)
	}
	for row := range rows {
		p, m := New(), &plain{}
		for i, rest := 0, row; i < long; i, rest = i+1, rest/len(calls) {
			if !step(p, m, calls[rest%len(calls)]) {
				t.Fatalf("row %d, call %d: %+v, want %+v", row, i, all(p), m.told())
			}
		}
	}
}

// P11.1 to P11.5: long rows of calls, most of them raw writes.
func TestLongRows(t *testing.T) {
	r := &rolls{}
	cuts := []int{-5, -1, 0, 1, 2, 3, 10, 50, api.MaxCut - 1, api.MaxCut, api.MaxCut + 1, math.MaxInt}
	refused := 0
	for range 200 {
		p, m := New(), &plain{}
		for i := range 2000 {
			n := spend
			switch r.below(20) {
			case 0:
				n = restore
			case 1, 2:
				n = cuts[r.below(len(cuts))]
			}
			if n == spend && m.off {
				refused++
			}
			if !step(p, m, n) {
				t.Fatalf("call %d, %d: %+v, want %+v", i, n, all(p), m.told())
			}
		}
	}
	// Rows in which the power is never off would show little.
	if refused < 1000 {
		t.Errorf("only %d raw writes were refused", refused)
	}
}
