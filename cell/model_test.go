package cell

import (
	"math/rand/v2"
	"testing"

	"lethe/power"
)

// call is one on a cell, and on the chapter's words; false, if these answer otherwise.
type call func(c *Cell, m *plain) bool

func setting(slot int, b string) call {
	return func(c *Cell, m *plain) bool { return c.Set(slot, b) == m.set(slot, b) }
}

func erasing(slot int) call {
	return func(c *Cell, m *plain) bool { return c.Erase(slot) == m.erase(slot) }
}

func cutting(n int) call {
	return func(c *Cell, m *plain) bool {
		c.Cut(n)
		m.power.Cut(n)
		return true
	}
}

func restoring(c *Cell, m *plain) bool {
	c.Restore()
	m.power.Restore()
	return true
}

// follows holds all that is told against the chapter's words.
func follows(t *testing.T, c *Cell, m *plain) {
	t.Helper()
	if got, want := all(t, c), m.told(); !same(got, want) {
		t.Fatalf("%+v, want %+v", got, want)
	}
}

// P13.1 to P13.4: all short rows of calls.
func TestAllShortRows(t *testing.T) {
	calls := []call{
		setting(0, "a"), setting(0, "bc"), setting(1, "a"), setting(0, ""), setting(1, long(201)), setting(2, "a"),
		erasing(0), erasing(1), erasing(-1), cutting(0), cutting(1), restoring,
	}
	const long = 5
	rows := 1
	for range long {
		rows *= len(calls)
	}
	for row := range rows {
		c, m := made(t, power.New()), newPlain()
		for i, rest := 0, row; i < long; i, rest = i+1, rest/len(calls) {
			if !calls[rest%len(calls)](c, m) {
				t.Fatalf("row %d, call %d answers otherwise", row, i)
			}
			follows(t, c, m)
		}
	}
}

// anyCall is most often a raw write that may be.
func anyCall(r *rand.Rand) call {
	slot := r.IntN(2)
	switch r.IntN(30) {
	case 0, 1:
		return restoring
	case 2:
		return cutting(r.IntN(30) - 1)
	case 3:
		slot = r.IntN(9) - 4
	}
	if r.IntN(2) == 0 {
		return erasing(slot)
	}
	b := make([]byte, r.IntN(205))
	for i := range b {
		b[i] = byte(r.Uint32())
	}
	return setting(slot, string(b))
}

// P13.1 to P13.4: long rows of calls, most of them on slots that there are.
func TestLongRows(t *testing.T) {
	r := rand.New(rand.NewPCG(13, 4))
	did, refused := 0, 0
	for range 100 {
		c, m := made(t, power.New()), newPlain()
		for range 500 {
			if !anyCall(r)(c, m) {
				t.Fatalf("a call answers otherwise: %+v", all(t, c))
			}
			if !m.power.On() {
				refused++
			}
			follows(t, c, m)
		}
		did += c.Count()
	}
	// Rows in which little is written, or the power is never off, would show little.
	if did < 5000 || refused < 1000 {
		t.Errorf("%d raw writes were done, %d calls made without power", did, refused)
	}
}
