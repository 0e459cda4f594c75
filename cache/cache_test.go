package cache

import (
	"math"
	"testing"

	"lethe/api"
)

// The chapter's examples, one row behind the other.
func TestExamples(t *testing.T) {
	r, s, x := ref(1), ref(2), ref(3)
	c := made(t, 2)
	puts(t, c, api.OK, r, node(1))
	puts(t, c, api.OK, s, node(2))
	gets(t, c, r, node(1))
	puts(t, c, api.OK, x, node(3))
	misses(t, c, s)
	if c.Kept() != 2 {
		t.Errorf("Kept: %d", c.Kept())
	}

	pins(t, c, api.OK, r)
	pins(t, c, api.OK, x)
	puts(t, c, api.ErrPins, s, node(2))
	unpins(t, c, api.OK, x)
	puts(t, c, api.OK, s, node(2))
	misses(t, c, x)

	unpins(t, c, api.ErrNone, x)
	unpins(t, c, api.ErrPins, s)
	drops(t, c, 1, r, x)
	keeps(t, c, held(2, 2, 0))

	for _, room := range []int{-1, 33} {
		if c, err := New(room); c != nil || err != api.ErrArg {
			t.Errorf("New(%d): %v, %d", room, c, err)
		}
	}
	c = made(t, 0)
	puts(t, c, api.ErrPins, r, node(1))
	c.Wipe()
	stays(t, c, told{})
}

// 'Errors': the numbers of those that there are.
func TestErrors(t *testing.T) {
	if _, err := New(-1); err != 1 {
		t.Errorf("New(-1): %d", err)
	}
	c := made(t, 1)
	pins(t, c, 3, ref(1))
	unpins(t, c, 3, ref(1))
	puts(t, c, 0, ref(1), node(1))
	unpins(t, c, 150, ref(1))
	pins(t, c, 0, ref(1))
	puts(t, c, 150, ref(2), node(1))
}

// P15.1: nil of a room that may not be; else nothing is kept.
func TestNew(t *testing.T) {
	for _, room := range []int{math.MinInt, -1 << 32, -2, -1, 33, 34, 1 << 20, 1 << 32, 1<<32 + 1, math.MaxInt} {
		if c, err := New(room); c != nil || err != api.ErrArg {
			t.Errorf("New(%d): %v, %d", room, c, err)
		}
	}
	for room := range 33 {
		stays(t, made(t, room), told{})
	}
}

// P15.2, P15.5: of every room just so many are kept, those that were put last.
func TestRoom(t *testing.T) {
	for room := 1; room <= 32; room++ {
		c := made(t, room)
		var want []api.Held
		for i := range 40 {
			puts(t, c, api.OK, ref(uint64(i)), node(i))
			want = append(want, held(uint64(i), i, 0))
			keeps(t, c, want[max(0, i+1-room):]...)
		}
		misses(t, c, ref(uint64(39-room)))
		gets(t, c, ref(uint64(40-room)), node(40-room))
	}
}

// P15.2: what is put under a reference that is kept stands in the place of what was there, and keeps its pins; that is a use, and nothing else goes.
func TestPutOver(t *testing.T) {
	c := made(t, 3)
	for i := range 3 {
		puts(t, c, api.OK, ref(uint64(i)), node(i))
	}
	pins(t, c, api.OK, ref(0))
	pins(t, c, api.OK, ref(0))
	puts(t, c, api.OK, ref(0), node(7))
	keeps(t, c, held(1, 1, 0), held(2, 2, 0), held(0, 7, 2))
	puts(t, c, api.OK, ref(2), node(8))
	keeps(t, c, held(1, 1, 0), held(0, 7, 2), held(2, 8, 0))
	// It is that which goes next that is put over: it stays, and another one goes.
	puts(t, c, api.OK, ref(1), node(9))
	puts(t, c, api.OK, ref(3), node(3))
	keeps(t, c, held(0, 7, 2), held(1, 9, 0), held(3, 3, 0))
	// All that is kept is pinned: what is put over that is not refused.
	pins(t, c, api.OK, ref(1))
	pins(t, c, api.OK, ref(3))
	puts(t, c, api.ErrPins, ref(2), node(2))
	puts(t, c, api.OK, ref(1), node(1))
	keeps(t, c, held(0, 7, 2), held(3, 3, 1), held(1, 1, 1))
}

// P15.2: what is not pinned goes, that which was used longest ago first; what was refused has changed nothing.
func TestPutWhenFull(t *testing.T) {
	c := made(t, 3)
	for i := range 3 {
		puts(t, c, api.OK, ref(uint64(i)), node(i))
	}
	pins(t, c, api.OK, ref(0))
	pins(t, c, api.OK, ref(1))
	puts(t, c, api.OK, ref(3), node(3))
	keeps(t, c, held(0, 0, 1), held(1, 1, 1), held(3, 3, 0))
	pins(t, c, api.OK, ref(3))
	for range 3 {
		puts(t, c, api.ErrPins, ref(4), node(4))
		keeps(t, c, held(0, 0, 1), held(1, 1, 1), held(3, 3, 1))
	}
	unpins(t, c, api.OK, ref(1))
	puts(t, c, api.OK, ref(4), node(4))
	keeps(t, c, held(0, 0, 1), held(3, 3, 1), held(4, 4, 0))
	// A node that comes anew, under a reference that was pinned once, has no pins.
	puts(t, c, api.OK, ref(1), node(5))
	keeps(t, c, held(0, 0, 1), held(3, 3, 1), held(1, 5, 0))
}

// P15.2: a cache of no room refuses all, and nothing is ever found.
func TestNoRoom(t *testing.T) {
	c := made(t, 0)
	for range 3 {
		puts(t, c, api.ErrPins, ref(1), node(1))
		puts(t, c, api.ErrPins, api.Ref{}, api.Node{})
		pins(t, c, api.ErrNone, ref(1))
		unpins(t, c, api.ErrNone, ref(1))
		drops(t, c, 0, ref(1), api.Ref{})
		c.Wipe()
		stays(t, c, told{})
	}
	misses(t, c, ref(1))
	stays(t, c, told{missed: 1})
}

// 'Words', P15.2: two references are the same, if all their fields are; any may be, and any node.
func TestAnyRefAnyNode(t *testing.T) {
	refs := []api.Ref{
		{}, {Key: 1}, {Seg: 1}, {Off: 1}, {Len: 1}, {Seg: -1}, {Off: -1}, {Len: -1},
		{Key: math.MaxUint64}, {Key: 1 << 32}, {Seg: math.MaxInt}, {Off: math.MinInt}, {Len: 1 << 32}, {Key: 1, Seg: 1, Off: 1, Len: 1},
	}
	c := made(t, len(refs))
	for i, r := range refs {
		misses(t, c, r)
		puts(t, c, api.OK, r, node(i))
	}
	for i, r := range refs {
		gets(t, c, r, node(i))
		for _, n := range odd() {
			puts(t, c, api.OK, r, n)
			gets(t, c, r, n)
		}
	}
	for i, r := range refs {
		drops(t, c, 1, r)
		misses(t, c, r)
		if c.Kept() != len(refs)-1-i {
			t.Fatalf("Kept: %d", c.Kept())
		}
	}
}

// P15.3: a Get that finds is a use; one that does not, a pin and what is asked beside it are none.
func TestUse(t *testing.T) {
	c := made(t, 3)
	for i := range 3 {
		puts(t, c, api.OK, ref(uint64(i)), node(i))
	}
	gets(t, c, ref(1), node(1))
	keeps(t, c, held(0, 0, 0), held(2, 2, 0), held(1, 1, 0))
	gets(t, c, ref(1), node(1))
	misses(t, c, ref(3))
	keeps(t, c, held(0, 0, 0), held(2, 2, 0), held(1, 1, 0))
	pins(t, c, api.OK, ref(0))
	unpins(t, c, api.OK, ref(0))
	unpins(t, c, api.ErrPins, ref(0))
	keeps(t, c, held(0, 0, 0), held(2, 2, 0), held(1, 1, 0))
	gets(t, c, ref(0), node(0))
	puts(t, c, api.OK, ref(3), node(3))
	keeps(t, c, held(1, 1, 0), held(0, 0, 0), held(3, 3, 0))
}

// P15.3: pins are counted, one by one, each reference's for itself.
func TestPins(t *testing.T) {
	c := made(t, 2)
	puts(t, c, api.OK, ref(1), node(1))
	puts(t, c, api.OK, ref(2), node(2))
	for range 1000 {
		pins(t, c, api.OK, ref(1))
	}
	keeps(t, c, held(1, 1, 1000), held(2, 2, 0))
	unpins(t, c, api.ErrPins, ref(2))
	pins(t, c, api.OK, ref(2))
	for range 1000 {
		puts(t, c, api.ErrPins, ref(3), node(3))
		unpins(t, c, api.OK, ref(1))
	}
	keeps(t, c, held(1, 1, 0), held(2, 2, 1))
	for range 2 {
		unpins(t, c, api.ErrPins, ref(1))
		pins(t, c, api.ErrNone, ref(3))
		unpins(t, c, api.ErrNone, ref(3))
		keeps(t, c, held(1, 1, 0), held(2, 2, 1))
	}
	puts(t, c, api.OK, ref(3), node(3))
	keeps(t, c, held(2, 2, 1), held(3, 3, 0))
}

// P15.4: those that are kept go, each once, pinned or not; the others stay as they are.
func TestDrop(t *testing.T) {
	for _, x := range []struct {
		refs []api.Ref
		want int
		left []api.Held
	}{
		{nil, 0, []api.Held{held(1, 1, 2), held(2, 2, 0), held(3, 3, 1)}},
		{[]api.Ref{}, 0, []api.Held{held(1, 1, 2), held(2, 2, 0), held(3, 3, 1)}},
		{[]api.Ref{ref(4), {}}, 0, []api.Held{held(1, 1, 2), held(2, 2, 0), held(3, 3, 1)}},
		{[]api.Ref{ref(1)}, 1, []api.Held{held(2, 2, 0), held(3, 3, 1)}},
		{[]api.Ref{ref(2), ref(2)}, 1, []api.Held{held(1, 1, 2), held(3, 3, 1)}},
		{[]api.Ref{ref(3), ref(4), ref(1), ref(3)}, 2, []api.Held{held(2, 2, 0)}},
		{[]api.Ref{ref(3), ref(2), ref(1)}, 3, nil},
	} {
		c := made(t, 4)
		for i := 1; i <= 3; i++ {
			puts(t, c, api.OK, ref(uint64(i)), node(i))
		}
		pins(t, c, api.OK, ref(1))
		pins(t, c, api.OK, ref(1))
		pins(t, c, api.OK, ref(3))
		drops(t, c, x.want, x.refs...)
		stays(t, c, told{len(x.left), 0, 0, x.left})
		drops(t, c, 0, x.refs...)
		stays(t, c, told{len(x.left), 0, 0, x.left})
	}
}

// P15.4, P15.5: Wipe takes all, pinned or not; the Hits stay, and there is as much room as before.
func TestWipe(t *testing.T) {
	c := made(t, 3)
	for range 3 {
		for i := range 3 {
			puts(t, c, api.OK, ref(uint64(i)), node(i))
			pins(t, c, api.OK, ref(uint64(i)))
		}
		puts(t, c, api.ErrPins, ref(3), node(3))
		gets(t, c, ref(1), node(1))
		misses(t, c, ref(3))
		before := all(c)
		c.Wipe()
		stays(t, c, told{0, before.found, before.missed, nil})
		c.Wipe()
		stays(t, c, told{0, before.found, before.missed, nil})
		for i := range 3 {
			misses(t, c, ref(uint64(i)))
			pins(t, c, api.ErrNone, ref(uint64(i)))
			drops(t, c, 0, ref(uint64(i)))
		}
	}
}

// P15.4: Hits counts what Get found and what not, and nothing else, from New on.
func TestHits(t *testing.T) {
	c := made(t, 1)
	for i := range 100 {
		puts(t, c, api.OK, ref(1), node(1))
		pins(t, c, api.OK, ref(1))
		puts(t, c, api.ErrPins, ref(2), node(2))
		pins(t, c, api.ErrNone, ref(2))
		gets(t, c, ref(1), node(1))
		gets(t, c, ref(1), node(1))
		misses(t, c, ref(2))
		stays(t, c, told{1, 2*i + 2, i + 1, []api.Held{held(1, 1, 1)}})
		drops(t, c, 1, ref(1))
	}
}

// P15.5: what is kept under a reference is what was put under it last, also when something was wiped between.
func TestPutLast(t *testing.T) {
	c := made(t, 2)
	for i, n := range odd() {
		puts(t, c, api.OK, ref(1), n)
		gets(t, c, ref(1), n)
		puts(t, c, api.OK, ref(1), node(i))
		gets(t, c, ref(1), node(i))
		puts(t, c, api.OK, ref(2), n)
		puts(t, c, api.OK, ref(3), n)
		misses(t, c, ref(1))
		puts(t, c, api.OK, ref(1), node(i+100))
		gets(t, c, ref(1), node(i+100))
		drops(t, c, 1, ref(1))
		puts(t, c, api.OK, ref(1), node(i+200))
		gets(t, c, ref(1), node(i+200))
		c.Wipe()
		misses(t, c, ref(1))
	}
}
