package commit

import (
	"math/rand/v2"
	"slices"
	"testing"

	"lethe/api"
	"lethe/cell"
	"lethe/dice"
	"lethe/medium"
	"lethe/power"
	"lethe/thief"
)

// began is a cell of a first record, and of as many next ones as are asked for.
func began(t *testing.T, nexts int) (*cell.Cell, api.Record) {
	t.Helper()
	c := newCell(t)
	r := first(t, c, ref(100, 0, 0, 6), 0, 6)
	for i := range nexts {
		r = record(i+1, ref(uint64(101+i), 0, i, 6), 0, i+6)
		next(t, c, r.Root, r.Open, r.Used, r)
	}
	return c, r
}

// keys are those that a thief can get at from the slots.
func keys(c *cell.Cell) []uint64 {
	var pieces []string
	for _, slot := range c.Slots() {
		b, _ := c.Get(slot)
		pieces = append(pieces, b)
	}
	return thief.Keys(pieces...)
}

// onlyIn holds that one slot alone is set, and that the keys of the slots are those of this record.
func onlyIn(t *testing.T, c *cell.Cell, r api.Record, slot int) {
	t.Helper()
	now(t, c, r, slot)
	if l := c.Slots(); !slices.Equal(l, []int{slot}) {
		t.Fatalf("Slots: %v, want %d", l, slot)
	}
	if l := keys(c); !slices.Equal(l, []uint64{r.Root.Key}) {
		t.Fatalf("keys in the cell: %v, want %d", l, r.Root.Key)
	}
}

// P17.6: just two raw writes; with none left the old record is told, with one or more the new one, with two both are done.
func TestNextMeetsACut(t *testing.T) {
	for nexts := range 4 {
		for left := range 5 {
			c, old := began(t, nexts)
			slot := nexts % 2
			want := record(nexts+1, ref(77, 1, 2, 3), 1, 5)
			count := c.Count()
			c.Cut(left)
			if left >= 2 {
				next(t, c, want.Root, want.Open, want.Used, want)
			} else {
				noNext(t, c, want.Root, want.Open, want.Used, api.ErrPower)
			}
			if did := c.Count() - count; did != min(left, 2) {
				t.Fatalf("%d left: %d raw writes were done", left, did)
			}
			if c.On() != (left > 2) {
				t.Fatalf("%d left: On %v", left, c.On())
			}
			c.Restore()
			switch left {
			case 0:
				onlyIn(t, c, old, slot)
			case 1:
				now(t, c, want, 1-slot)
				if l := keys(c); !slices.Equal(l, []uint64{77, old.Root.Key}) {
					t.Fatalf("keys in the cell: %v", l)
				}
				noNext(t, c, example(), 0, 6, api.ErrTwo)
				now(t, c, want, 1-slot)
				stale(t, c, true, api.OK)
				onlyIn(t, c, want, 1-slot)
			default:
				onlyIn(t, c, want, 1-slot)
			}
			after := all(c)
			stale(t, c, false, api.OK)
			stays(t, c, after)
		}
	}
}

// P17.5, P17.6: however often the power fails at it, Stale erases the old record, and Now tells the new one all the while.
func TestStaleMeetsCuts(t *testing.T) {
	for nexts := range 3 {
		c, _ := began(t, nexts)
		slot := 1 - nexts%2
		c.Cut(1)
		noNext(t, c, ref(77, 1, 2, 3), 1, 5, api.ErrPower)
		want := record(nexts+1, ref(77, 1, 2, 3), 1, 5)
		before := all(c)
		for range 5 {
			stale(t, c, false, api.ErrPower)
			stays(t, c, before)
			now(t, c, want, slot)
			c.Restore()
			c.Cut(0)
		}
		c.Restore()
		c.Cut(1)
		// The raw write that meets the cut is done.
		stale(t, c, true, api.OK)
		if c.On() || c.Count() != before.count+1 {
			t.Fatalf("On %v, Count %d", c.On(), c.Count())
		}
		stale(t, c, false, api.OK)
		onlyIn(t, c, want, slot)
		noNext(t, c, example(), 0, 6, api.ErrPower)
		onlyIn(t, c, want, slot)
		c.Restore()
		next(t, c, example(), 0, 6, record(nexts+2, example(), 0, 6))
		onlyIn(t, c, record(nexts+2, example(), 0, 6), 1-slot)
	}
}

// P17.3: without power nothing was laid down; the raw write that meets the cut is done.
func TestFirstMeetsACut(t *testing.T) {
	for left := range 3 {
		c := newCell(t)
		c.Cut(left)
		if left == 0 {
			noFirst(t, c, example(), 0, 6, api.ErrPower)
			noNow(t, c, api.ErrLost)
			c.Restore()
		}
		r := first(t, c, example(), 0, 6)
		onlyIn(t, c, r, 0)
		if c.Count() != 1 {
			t.Fatalf("Count: %d", c.Count())
		}
	}
}

// P17.6: raw writes of other devices on the same power bring the cut nearer, and are none of the cell's.
func TestCutsByAnotherDevice(t *testing.T) {
	p := power.New()
	c := cell.New(p)
	m, err := medium.New(p, 1, 100)
	if err != api.OK {
		t.Fatal(err)
	}
	old := first(t, c, example(), 0, 6)
	m.Cut(3)
	for range 2 {
		if err := m.Write(0, 0, "x"); err != api.OK {
			t.Fatal(err)
		}
	}
	noNext(t, c, ref(8, 0, 6, 7), 0, 13, api.ErrPower)
	if c.Count() != 2 || m.Count() != 2 || p.Writes() != 4 {
		t.Errorf("raw writes: %d, %d, %d", c.Count(), m.Count(), p.Writes())
	}
	now(t, c, record(1, ref(8, 0, 6, 7), 0, 13), 1)
	if l := keys(c); !slices.Equal(l, []uint64{old.Root.Key, 8}) {
		t.Errorf("keys in the cell: %v", l)
	}
}

// P17.6: over many commits, each with a cut somewhere ahead, the cell leads to the tree of before or behind; and to no other one's key, once the stale slot is erased.
func TestManyCommits(t *testing.T) {
	r := rand.New(rand.NewPCG(17, 6))
	d, err := dice.New(nil)
	if err != api.OK {
		t.Fatal(err)
	}
	c := newCell(t)
	old, slot := first(t, c, ref(d.Next(), 0, 0, 6), 0, 6), 0
	var ended [3]int
	for range 5000 {
		left := r.IntN(4) - 1
		c.Cut(left)
		root := ref(d.Next(), r.IntN(9), r.IntN(1000), 1+r.IntN(1000))
		want := record(old.Number+1, root, r.IntN(9), r.IntN(1000))
		count := c.Count()
		got, err := Next(c, root, want.Open, want.Used)
		done := err == api.OK
		if done != (left < 0 || left >= 2) || done && got != want || !done && (got != api.Record{} || err != api.ErrPower) {
			t.Fatalf("%d left: %v, %d", left, got, err)
		}
		did := c.Count() - count
		ended[did]++
		if did > 0 {
			old, slot = want, 1-slot
		}
		now(t, c, old, slot)
		for did == 1 {
			c.Restore()
			c.Cut(r.IntN(2))
			was, err := Stale(c)
			now(t, c, old, slot)
			if was {
				break
			}
			if err != api.ErrPower {
				t.Fatalf("Stale: %d", err)
			}
		}
		c.Restore()
		onlyIn(t, c, old, slot)
	}
	if slices.Min(ended[:]) < 500 {
		t.Errorf("so often none, one and two raw writes were done: %v", ended)
	}
}
