package cell

import (
	"testing"

	"lethe/api"
	"lethe/power"
)

// pasts are ways to empty slots.
func pasts() map[string]func(t *testing.T, c *Cell) {
	return map[string]func(t *testing.T, c *Cell){
		"nothing": func(t *testing.T, c *Cell) {},
		"both in their order": func(t *testing.T, c *Cell) {
			sets(t, c, api.OK, 0, "first")
			sets(t, c, api.OK, 1, "second")
			erases(t, c, api.OK, 0)
			erases(t, c, api.OK, 1)
		},
		"the last one first": func(t *testing.T, c *Cell) {
			sets(t, c, api.OK, 1, "\x00")
			sets(t, c, api.OK, 0, long(200))
			erases(t, c, api.OK, 0)
			erases(t, c, api.OK, 1)
		},
		"ever fewer bytes": func(t *testing.T, c *Cell) {
			for n := 200; n > 0; n-- {
				sets(t, c, api.OK, n%2, long(n))
				erases(t, c, api.OK, n%2)
			}
		},
		"refused, and without power": func(t *testing.T, c *Cell) {
			sets(t, c, api.ErrLong, 0, long(201))
			sets(t, c, api.OK, 0, "abc")
			sets(t, c, api.ErrSet, 0, "defg")
			c.Cut(0)
			sets(t, c, api.ErrPower, 1, "hi")
			erases(t, c, api.ErrPower, 0)
			c.Restore()
			erases(t, c, api.OK, 0)
		},
		"the erasing meets a cut": func(t *testing.T, c *Cell) {
			sets(t, c, api.OK, 1, long(200))
			c.Cut(1)
			erases(t, c, api.OK, 1)
			c.Restore()
		},
	}
}

// slotsTell is what a cell tells of its slots: what they have, and what they answer for it to further calls.
func slotsTell(t *testing.T, c *Cell) [7]any {
	t.Helper()
	l := all(t, c)
	return [7]any{l.has, len(l.set), c.Set(0, "x"), c.Set(1, long(150)), c.Erase(0), c.Erase(1), all(t, c).has}
}

// P13.4: behind whatever past, cells of the same slots tell the same of them; and in the memory of a cell nothing is left of what was erased.
func TestWhatWasErasedIsToldByNothing(t *testing.T) {
	for _, now := range [][2]string{{"", ""}, {"a", ""}, {"", "bc"}, {"\x00", long(100)}, {long(200), "d"}, {long(200), long(200)}} {
		filled := func(past func(t *testing.T, c *Cell)) *Cell {
			c := made(t, power.New())
			past(t, c)
			for slot, b := range now {
				if b != "" {
					sets(t, c, api.OK, slot, b)
				}
			}
			return c
		}
		for name, past := range pasts() {
			t.Run(name, func(t *testing.T) {
				fresh, used := filled(pasts()["nothing"]), filled(past)
				if fresh.slots != used.slots {
					t.Error("something is left of what was there")
				}
				if a, b := slotsTell(t, fresh), slotsTell(t, used); a != b {
					t.Errorf("%v, of a fresh one %v", b, a)
				}
			})
		}
	}
}

// P13.4: an erased slot's memory is all noughts, from the call on that erases it.
func TestErasingWipes(t *testing.T) {
	for slot := range 2 {
		for _, n := range []int{1, 2, 199, 200} {
			c := made(t, power.New())
			sets(t, c, api.OK, slot, long(n))
			kept := &c.slots[slot]
			if string(kept.bytes[:n]) != long(n) {
				t.Fatal("the slot's bytes stand elsewhere")
			}
			erases(t, c, api.OK, slot)
			if *kept != (room{}) {
				t.Errorf("of %d bytes in the slot %d there is left: %q", n, slot, kept.bytes)
			}
		}
	}
}
