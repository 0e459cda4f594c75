package cell

import (
	"slices"
	"strings"
	"testing"

	"lethe/api"
	"lethe/power"
)

func made(t *testing.T, p *power.Power) *Cell {
	t.Helper()
	c := New(p)
	if c == nil {
		t.Fatal("New of a power: nil")
	}
	return c
}

// long is so many bytes, no two of them beside one another the same.
func long(n int) string { return strings.Repeat("abcdefg", n/7+1)[:n] }

// sets and erases do a raw write that must be answered so.
func sets(t *testing.T, c *Cell, want api.Errno, slot int, b string) {
	t.Helper()
	if err := c.Set(slot, b); err != want {
		t.Fatalf("Set(%d, %.20q): %d, want %d", slot, b, err, want)
	}
}

func erases(t *testing.T, c *Cell, want api.Errno, slot int) {
	t.Helper()
	if err := c.Erase(slot); err != want {
		t.Fatalf("Erase(%d): %d, want %d", slot, err, want)
	}
}

// has asks a slot, which must have these bytes: none, if it is empty.
func has(t *testing.T, c *Cell, slot int, want string) {
	t.Helper()
	if b, ok := c.Get(slot); b != want || ok != (want != "") {
		t.Fatalf("Get(%d): %.20q, %v, want %.20q", slot, b, ok, want)
	}
}

// told is all that a cell tells.
type told struct {
	has          [2]string // of each slot; none, if it is empty
	set          []int
	count        int
	on           bool
	left, writes int
}

func all(t *testing.T, c *Cell) told {
	t.Helper()
	l := told{set: c.Slots(), count: c.Count(), on: c.On(), left: c.Left(), writes: c.Writes()}
	for slot := range l.has {
		b, ok := c.Get(slot)
		if ok != (b != "") {
			t.Fatalf("Get(%d): %q, %v", slot, b, ok)
		}
		l.has[slot] = b
	}
	return l
}

func same(a, b told) bool {
	return a.has == b.has && slices.Equal(a.set, b.set) && a.count == b.count &&
		a.on == b.on && a.left == b.left && a.writes == b.writes
}

// tells holds all that a cell tells against what it must, twice: asking changes nothing.
func tells(t *testing.T, c *Cell, want told) {
	t.Helper()
	for range 2 {
		if got := all(t, c); !same(got, want) {
			t.Fatalf("%+v, want %+v", got, want)
		}
	}
}

// plain is the chapter's words, one by one, on a power of its own.
type plain struct {
	power *power.Power
	has   [2]string
	count int
}

func newPlain() *plain { return &plain{power: power.New()} }

func (m *plain) set(slot int, b string) api.Errno {
	if slot != 0 && slot != 1 {
		return 130
	}
	if m.has[slot] != "" {
		return 131
	}
	if b == "" || len(b) > 200 {
		return 2
	}
	if m.power.Spend() != 0 {
		return 110
	}
	m.has[slot] = b
	m.count++
	return 0
}

func (m *plain) erase(slot int) api.Errno {
	if slot != 0 && slot != 1 {
		return 130
	}
	if m.has[slot] == "" {
		return 132
	}
	if m.power.Spend() != 0 {
		return 110
	}
	m.has[slot] = ""
	m.count++
	return 0
}

func (m *plain) told() told {
	l := told{has: m.has, count: m.count, on: m.power.On(), left: m.power.Left(), writes: m.power.Writes()}
	if m.has[0] != "" {
		l.set = append(l.set, 0)
	}
	if m.has[1] != "" {
		l.set = append(l.set, 1)
	}
	return l
}
