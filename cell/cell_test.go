package cell

import (
	"math"
	"slices"
	"testing"
	"unsafe"

	"lethe/api"
	"lethe/medium"
	"lethe/power"
)

// far are numbers of no slot.
func far() []int {
	return []int{math.MinInt, -1 << 32, -2, -1, 2, 3, 200, 1 << 32, 1<<32 + 1, math.MaxInt}
}

// The chapter's examples, one row behind the other.
func TestExamples(t *testing.T) {
	c := made(t, power.New())
	sets(t, c, api.OK, 0, "a")
	sets(t, c, api.ErrSet, 0, "b")
	sets(t, c, api.ErrSlot, 2, "b")
	sets(t, c, api.ErrLong, 1, "")
	if l := c.Slots(); !slices.Equal(l, []int{0}) {
		t.Errorf("Slots: %v", l)
	}

	sets(t, c, api.OK, 1, "b")
	has(t, c, 1, "b")
	erases(t, c, api.OK, 0)
	erases(t, c, api.ErrUnset, 0)
	has(t, c, 0, "")
	if l := c.Slots(); !slices.Equal(l, []int{1}) || c.Count() != 3 {
		t.Errorf("Slots, Count: %v, %d", l, c.Count())
	}

	c.Cut(0)
	sets(t, c, api.ErrPower, 0, "c")
	sets(t, c, api.ErrSet, 1, "c")
	erases(t, c, api.ErrPower, 1)
	if c.Count() != 3 {
		t.Errorf("Count: %d", c.Count())
	}
}

// 'Errors': the numbers of those that there are.
func TestErrors(t *testing.T) {
	c := made(t, power.New())
	sets(t, c, 130, 2, "a")
	erases(t, c, 130, 2)
	sets(t, c, 2, 0, "")
	erases(t, c, 132, 0)
	sets(t, c, api.OK, 0, "a")
	sets(t, c, 131, 0, "a")
	c.Cut(0)
	sets(t, c, 110, 1, "a")
	erases(t, c, 110, 0)
}

// P13.1: of no power nil; else empty slots, and nothing done.
func TestNew(t *testing.T) {
	if c := New(nil); c != nil {
		t.Errorf("New of no power: %+v", c)
	}
	tells(t, made(t, power.New()), told{on: true, left: -1})
}

// P13.1: New needs no power, and tells it nothing.
func TestNewLeavesThePower(t *testing.T) {
	p := power.New()
	p.Cut(2)
	p.Spend()
	tells(t, made(t, p), told{on: true, left: 1, writes: 1})
	p.Cut(0)
	c := made(t, p)
	tells(t, c, told{writes: 1})
	sets(t, c, api.ErrPower, 0, "a")
	p.Restore()
	sets(t, c, api.OK, 0, "a")
}

// P13.1, 'Ways': all methods of the power are a cell's, promoted from the power itself.
func TestThePowerIsEmbedded(t *testing.T) {
	type powered interface {
		Cut(int)
		Restore()
		Spend() api.Errno
		On() bool
		Left() int
		Writes() int
	}
	p := power.New()
	c := made(t, p)
	if c.Power != p {
		t.Error("it has another power")
	}
	var device powered = c
	device.Cut(3)
	if p.Left() != 3 || device.Spend() != api.OK || p.Left() != 2 || p.Writes() != 1 {
		t.Errorf("left %d, writes %d", p.Left(), p.Writes())
	}
	// A raw write of another device is none of this one's.
	tells(t, c, told{on: true, left: 2, writes: 1})
	device.Cut(0)
	device.Restore()
	tells(t, c, told{on: true, left: -1, writes: 1})
}

// P13.1, P13.3: devices on one power fail together; what one has, and how many raw writes it did, none of the others knows.
func TestDevicesOnOnePower(t *testing.T) {
	p := power.New()
	a, b := made(t, p), made(t, p)
	m, err := medium.New(p, 1, 4)
	if err != api.OK {
		t.Fatal(err)
	}
	sets(t, a, api.OK, 0, "a")
	m.Cut(3)
	sets(t, b, api.OK, 1, "b")
	if m.Write(0, 0, "m") != api.OK {
		t.Error("the medium's write was refused")
	}
	sets(t, a, api.OK, 1, "c")
	sets(t, b, api.ErrPower, 0, "d")
	erases(t, a, api.ErrPower, 0)
	if m.Write(0, 1, "n") != api.ErrPower || m.Count() != 1 {
		t.Errorf("the medium did %d raw writes", m.Count())
	}
	tells(t, a, told{has: [2]string{"a", "c"}, set: []int{0, 1}, count: 2, writes: 4})
	tells(t, b, told{has: [2]string{"", "b"}, set: []int{1}, count: 1, writes: 4})
	b.Restore()
	erases(t, a, api.OK, 0)
	tells(t, a, told{has: [2]string{"", "c"}, set: []int{1}, count: 3, on: true, left: -1, writes: 5})
	tells(t, b, told{has: [2]string{"", "b"}, set: []int{1}, count: 1, on: true, left: -1, writes: 5})
}

// P13.2, P13.3: so many bytes as may be are set in each slot, whatever the other one has, and are got as they were.
func TestSet(t *testing.T) {
	for slot := range 2 {
		for _, other := range []string{"", "x", long(200)} {
			for n := 1; n <= 200; n++ {
				c := made(t, power.New())
				want := told{on: true, left: -1}
				if other != "" {
					sets(t, c, api.OK, 1-slot, other)
					want.has[1-slot] = other
					want.set = append(want.set, 1-slot)
				}
				sets(t, c, api.OK, slot, long(n))
				want.has[slot] = long(n)
				want.set = append(want.set, slot)
				slices.Sort(want.set)
				want.count, want.writes = len(want.set), len(want.set)
				tells(t, c, want)
			}
		}
	}
}

// P13.2: any bytes are set as they are, noughts at their ends, too.
func TestAnyBytes(t *testing.T) {
	every := make([]byte, 256)
	for i := range every {
		every[i] = byte(i)
	}
	c := made(t, power.New())
	for _, b := range []string{
		string(every[:200]), string(every[56:]), "\x00", "\x00\x00\x00", "a\x00", "\x00a", "a\x00\x00b\x00", "\xff\xfe\x00é", long(199) + "\x00",
	} {
		for slot := range 2 {
			sets(t, c, api.OK, slot, b)
			sets(t, c, api.ErrSet, slot, b)
			has(t, c, slot, b)
		}
		for slot := range 2 {
			erases(t, c, api.OK, slot)
			has(t, c, slot, "")
		}
	}
}

// P13.2: each slot is erased by itself, just if it is set; and it can be set and erased anew, without end.
func TestErase(t *testing.T) {
	for slot := range 2 {
		c := made(t, power.New())
		erases(t, c, api.ErrUnset, slot)
		sets(t, c, api.OK, 1-slot, "other")
		erases(t, c, api.ErrUnset, slot)
		want := told{set: []int{1 - slot}, count: 1, on: true, left: -1, writes: 1}
		want.has[1-slot] = "other"
		tells(t, c, want)
		for i := range 1000 {
			b := long(i%200 + 1)
			sets(t, c, api.OK, slot, b)
			has(t, c, slot, b)
			erases(t, c, api.OK, slot)
			erases(t, c, api.ErrUnset, slot)
			want.count, want.writes = 2*i+3, 2*i+3
			tells(t, c, want)
		}
		erases(t, c, api.OK, 1-slot)
		tells(t, c, told{count: 2002, on: true, left: -1, writes: 2002})
	}
}

// P13.2: of several errors the first one is told, with power and without; and nothing has changed.
func TestWritesThatAreRefused(t *testing.T) {
	for _, off := range []bool{false, true} {
		for set := range 2 {
			c := made(t, power.New())
			sets(t, c, api.OK, set, "abc")
			c.Cut(5)
			if off {
				c.Cut(0)
			}
			before := all(t, c)
			refused := func(want api.Errno, slot int, b string) {
				t.Helper()
				sets(t, c, want, slot, b)
				tells(t, c, before)
			}
			unerased := func(want api.Errno, slot int) {
				t.Helper()
				erases(t, c, want, slot)
				tells(t, c, before)
			}
			for _, b := range []string{"", "a", "abc", long(200), long(201), long(100000)} {
				for _, slot := range far() {
					refused(api.ErrSlot, slot, b)
				}
				refused(api.ErrSet, set, b)
			}
			for _, n := range []int{0, 201, 202, 256, 257, 400, 456, 1 << 16, 1<<16 + 1, 1 << 21} {
				refused(api.ErrLong, 1-set, long(n))
			}
			for _, slot := range far() {
				unerased(api.ErrSlot, slot)
			}
			unerased(api.ErrUnset, 1-set)
			if off {
				refused(api.ErrPower, 1-set, "a")
				refused(api.ErrPower, 1-set, long(200))
				unerased(api.ErrPower, set)
				continue
			}
			sets(t, c, api.OK, 1-set, long(200))
			erases(t, c, api.OK, set)
			if c.Left() != 3 {
				t.Errorf("left %d: what was refused needed power", c.Left())
			}
		}
	}
}

// P13.3: just what a slot has is told, of none nothing; with power and without; rising, in whatever order they were set.
func TestGetAndSlots(t *testing.T) {
	for _, x := range []struct {
		order []int
		set   []int
	}{
		{nil, nil}, {[]int{0}, []int{0}}, {[]int{1}, []int{1}}, {[]int{0, 1}, []int{0, 1}}, {[]int{1, 0}, []int{0, 1}},
	} {
		c := made(t, power.New())
		want := told{set: x.set, count: len(x.order), on: true, left: -1, writes: len(x.order)}
		for _, slot := range x.order {
			b := []string{"zero", "one"}[slot]
			sets(t, c, api.OK, slot, b)
			want.has[slot] = b
		}
		tells(t, c, want)
		c.Cut(0)
		want.on, want.left = false, 0
		tells(t, c, want)
		for _, slot := range far() {
			has(t, c, slot, "")
		}
		tells(t, c, want)
	}
}

// P13.2, P13.3: behind a cut just the first n raw writes are done that are not refused otherwise; behind Restore all.
func TestJustSoManyWrites(t *testing.T) {
	steps := []struct {
		slot int
		b    string // none: the slot is erased
	}{
		{0, "a"}, {1, "b"}, {0, ""}, {0, "c"}, {1, ""}, {1, "d"}, {1, ""}, {0, ""},
	}
	step := func(c *Cell, i int) api.Errno {
		if steps[i].b == "" {
			return c.Erase(steps[i].slot)
		}
		return c.Set(steps[i].slot, steps[i].b)
	}
	for n := range len(steps) + 2 {
		c := made(t, power.New())
		c.Cut(n)
		want := told{on: n > 0, left: n}
		for i, s := range steps {
			sets(t, c, api.ErrSlot, 2, "x")
			erases(t, c, api.ErrSlot, -1)
			err := step(c, i)
			if i >= n {
				if err != api.ErrPower {
					t.Fatalf("Cut(%d), write %d: %d", n, i, err)
				}
				tells(t, c, want)
				c.Restore()
				want.on, want.left = true, -1
				err = step(c, i)
			}
			if err != api.OK {
				t.Fatalf("Cut(%d), write %d: %d", n, i, err)
			}
			want.has[s.slot] = s.b
			want.set = nil
			for slot, b := range want.has {
				if b != "" {
					want.set = append(want.set, slot)
				}
			}
			want.count, want.writes = i+1, i+1
			if i < n {
				want.on, want.left = i+1 < n, n-i-1
			}
			tells(t, c, want)
			if i >= n {
				c.Cut(0)
				want.on, want.left = false, 0
			}
		}
	}
}

// R4: what was handed in is not kept, and no two answers share any memory, their spare room neither.
func TestMemoryOfItsOwn(t *testing.T) {
	c := made(t, power.New())
	b := []byte("abcdef")
	in := unsafe.String(&b[1], 4)
	sets(t, c, api.OK, 0, in)
	sets(t, c, api.OK, 1, in)
	copy(b, "XXXXXX")
	has(t, c, 0, "bcde")
	has(t, c, 1, "bcde")
	places := map[*byte]bool{&b[1]: true}
	for _, slot := range []int{0, 0, 1, 1} {
		s, _ := c.Get(slot)
		places[unsafe.StringData(s)] = true
	}
	if len(places) != 5 {
		t.Errorf("five rows of bytes lie at %d places", len(places))
	}

	// What was answered stays, when the slot is erased and set anew.
	old, _ := c.Get(0)
	erases(t, c, api.OK, 0)
	sets(t, c, api.OK, 0, "other")
	if old != "bcde" {
		t.Errorf("what was answered is now %q", old)
	}

	first, second := c.Slots(), c.Slots()
	for i := range first[:cap(first)] {
		first[:cap(first)][i] = 7
	}
	for _, l := range [][]int{second, c.Slots()} {
		if !slices.Equal(l, []int{0, 1}) {
			t.Errorf("Slots: %v", l)
		}
	}
}
