package cache

import (
	"math/rand/v2"
	"testing"

	"lethe/api"
)

// call is one on a cache, and on the chapter's words; false, if these answer otherwise.
type call func(c *Cache, m *plain) bool

func putting(r api.Ref, n api.Node) call {
	return func(c *Cache, m *plain) bool { return c.Put(r, n) == m.put(r, n) }
}

func getting(r api.Ref) call {
	return func(c *Cache, m *plain) bool {
		n, ok := c.Get(r)
		want, there := m.get(r)
		return same(n, want) && ok == there
	}
}

func pinning(r api.Ref) call {
	return func(c *Cache, m *plain) bool { return c.Pin(r) == m.pin(r) }
}

func unpinning(r api.Ref) call {
	return func(c *Cache, m *plain) bool { return c.Unpin(r) == m.unpin(r) }
}

func dropping(refs ...api.Ref) call {
	return func(c *Cache, m *plain) bool { return c.Drop(refs...) == m.drop(refs) }
}

func wiping(c *Cache, m *plain) bool {
	c.Wipe()
	m.wipe()
	return true
}

// P15.1 to P15.5: all short rows of calls, on caches so small that most of them matter.
func TestAllShortRows(t *testing.T) {
	calls := []call{
		putting(ref(1), node(1)), putting(ref(1), node(2)), putting(ref(2), node(3)), putting(ref(3), node(4)),
		getting(ref(1)), getting(ref(2)), pinning(ref(1)), pinning(ref(2)), unpinning(ref(1)),
		dropping(ref(1), ref(1), ref(4)), dropping(ref(3), ref(2)), wiping,
	}
	for room := range 4 {
		rows := 1
		for long := 1; long <= 5; long++ {
			rows *= len(calls)
			for row := range rows {
				c, m := made(t, room), newPlain(room)
				for i, rest := 0, row; i < long; i, rest = i+1, rest/len(calls) {
					if !calls[rest%len(calls)](c, m) {
						t.Fatalf("room %d, row %d of %d calls, call %d answers otherwise", room, row, long, i)
					}
				}
				// What is kept behind the calls ahead of the last one was looked at in a shorter row.
				stays(t, c, m.told())
			}
		}
	}
}

// anyRef is one of some more than there is room for; they differ in one field or more.
func anyRef(r *rand.Rand, room int) api.Ref {
	n := r.IntN(room + 3)
	return api.Ref{Key: uint64(n % 2), Seg: n / 2 % 2, Off: n / 4 % 3, Len: n / 12}
}

func anyCall(r *rand.Rand, room int) call {
	ref := anyRef(r, room)
	switch n := r.IntN(100); {
	case n == 0:
		return wiping
	case n < 8:
		refs := make([]api.Ref, r.IntN(4))
		for i := range refs {
			refs[i] = anyRef(r, room)
		}
		return dropping(refs...)
	case n < 30:
		return pinning(ref)
	case n < 50:
		return unpinning(ref)
	case n < 75:
		return getting(ref)
	case n < 85:
		return putting(ref, odd()[r.IntN(len(odd()))])
	}
	return putting(ref, node(r.Int()))
}

// P15.1 to P15.5: long rows of calls, on caches of all rooms.
func TestLongRows(t *testing.T) {
	r := rand.New(rand.NewPCG(15, 5))
	full, pinned, found := 0, 0, 0
	for i := range 300 {
		room := i % 33
		c, m := made(t, room), newPlain(room)
		for range 300 {
			if !anyCall(r, room)(c, m) {
				t.Fatalf("a call answers otherwise: %+v", all(c))
			}
			stays(t, c, m.told())
			if len(m.kept) == room {
				full++
				if _, ok := m.longestAgo(); !ok {
					pinned++
				}
			}
		}
		found += m.found
	}
	// Rows in which there is little to be seen would show little.
	if full < 10000 || pinned < 3000 || found < 5000 {
		t.Errorf("%d times full, %d times all of it pinned, %d times found", full, pinned, found)
	}
}
