package commit

import (
	"math/rand/v2"
	"testing"

	"lethe/api"
	"lethe/cell"
)

// call is one on a cell, and on the chapter's words; false, if these answer otherwise.
type call func(c *cell.Cell, m *plain) bool

func firstOf(r api.Record) call {
	return func(c *cell.Cell, m *plain) bool {
		got, err := First(c, r.Root, r.Open, r.Used)
		want, wantErr := m.first(r)
		return got == want && err == wantErr
	}
}

func nextOf(r api.Record) call {
	return func(c *cell.Cell, m *plain) bool {
		got, err := Next(c, r.Root, r.Open, r.Used)
		want, wantErr := m.next(r)
		return got == want && err == wantErr
	}
}

func staling(c *cell.Cell, m *plain) bool {
	was, err := Stale(c)
	want, wantErr := m.stale()
	return was == want && err == wantErr
}

// setting and erasing are done past this package.
func setting(slot int, b string) call {
	return func(c *cell.Cell, m *plain) bool { return c.Set(slot, b) == m.set(slot, b) }
}

func erasing(slot int) call {
	return func(c *cell.Cell, m *plain) bool { return c.Erase(slot) == m.erase(slot) }
}

func cutting(n int) call {
	return func(c *cell.Cell, m *plain) bool {
		c.Cut(n)
		m.power.Cut(n)
		return true
	}
}

func restoring(c *cell.Cell, m *plain) bool {
	c.Restore()
	m.power.Restore()
	return true
}

// follows holds all that is told against the chapter's words.
func follows(t *testing.T, c *cell.Cell, m *plain) {
	t.Helper()
	want, at, wantErr := m.now()
	if r, slot, err := Now(c); r != want || slot != at || err != wantErr {
		t.Fatalf("Now of %q: %v, %d, %d, want %v, %d, %d", m.has, r, slot, err, want, at, wantErr)
	}
	stays(t, c, m.told())
}

// P17.2 to P17.6: all short rows of calls.
func TestAllShortRows(t *testing.T) {
	one, two := record(0, example(), 0, 6), record(0, ref(8, 0, 6, 7), 0, 13)
	calls := []call{
		firstOf(one), firstOf(api.Record{}), nextOf(one), nextOf(two), nextOf(api.Record{}), staling,
		setting(0, "hello"), setting(1, bytesOf(record(1, two.Root, 0, 13))), setting(0, bytesOf(record(lastNumber, one.Root, 0, 6))),
		erasing(0), erasing(1), cutting(0), cutting(1), restoring,
	}
	rows := 1
	for long := 1; long <= 5; long++ {
		rows *= len(calls)
		for row := range rows {
			c, m := newCell(t), newPlain()
			for i, rest := 0, row; i < long; i, rest = i+1, rest/len(calls) {
				if !calls[rest%len(calls)](c, m) {
					t.Fatalf("row %d of %d calls, call %d answers otherwise", row, long, i)
				}
			}
			// What lies behind the calls ahead of the last one was looked at in a shorter row.
			follows(t, c, m)
		}
	}
}

// anyRecord may be, more often than not.
func anyRecord(r *rand.Rand) api.Record {
	l := edges()
	if r.IntN(8) == 0 {
		l = noRecords()
	}
	return l[r.IntN(len(l))]
}

// anyCall is most often a commit.
func anyCall(r *rand.Rand) call {
	slot := r.IntN(2)
	switch r.IntN(24) {
	case 0:
		return setting(slot, bytesOf(anyRecord(r)))
	case 1:
		return setting(slot, "hello")
	case 2:
		return erasing(slot)
	case 3, 4:
		return firstOf(anyRecord(r))
	case 5, 6, 7:
		return staling
	case 8, 9, 10, 11:
		return cutting(r.IntN(6) - 1)
	case 12, 13, 14, 15, 16:
		return restoring
	}
	return nextOf(anyRecord(r))
}

// P17.2 to P17.6: long rows of calls, most of them commits with a cut ahead.
func TestLongRows(t *testing.T) {
	r := rand.New(rand.NewPCG(17, 2))
	did, off, two, told := 0, 0, 0, 0
	for range 200 {
		c, m := newCell(t), newPlain()
		for range 500 {
			if !anyCall(r)(c, m) {
				t.Fatalf("a call answers otherwise: %v", all(c))
			}
			follows(t, c, m)
			if !c.On() {
				off++
			}
			if len(c.Slots()) == 2 {
				two++
			}
			if _, _, err := Now(c); err == api.OK {
				told++
			}
		}
		did += c.Count()
	}
	// Rows in which little is written, or the power is never off, or no two slots are set, would show little.
	if min(did, off, two, told) < 10000 {
		t.Errorf("%d raw writes, %d calls that left the power off, %d two slots, %d a record", did, off, two, told)
	}
}
