package cache

import (
	"slices"
	"testing"

	"lethe/api"
)

func made(t *testing.T, room int) *Cache {
	t.Helper()
	c, err := New(room)
	if c == nil || err != api.OK {
		t.Fatalf("New(%d): %v, %d", room, c, err)
	}
	return c
}

// ref is the reference of that key, all of whose other fields are set, too.
func ref(key uint64) api.Ref { return api.Ref{Key: key, Seg: 1, Off: 2, Len: 3} }

// node is one that tells of its number.
func node(n int) api.Node {
	return api.Node{Leaf: true, Entries: []api.Entry{{Name: "a", Versions: []api.Version{{No: n, Value: "x", Note: "y"}}}}}
}

// odd are nodes of all forms, most of which no tree has.
func odd() []api.Node {
	e := api.Entry{Name: "b", Versions: []api.Version{{No: 1, Value: "v", Note: "w"}, {No: -7, Note: "u"}}}
	f := api.Entry{Name: "", Versions: []api.Version{{}}}
	k := api.Kid{Low: "c", Ref: api.Ref{Key: 1 << 63, Seg: -1, Off: 1 << 40, Len: 0}}
	return []api.Node{
		{},
		{Leaf: true},
		{Leaf: true, Entries: []api.Entry{{Name: "z"}, e, f, e, f, e}},
		{Kids: []api.Kid{{Low: "a", Ref: ref(5)}, k}},
		{Leaf: true, Entries: []api.Entry{e}, Kids: []api.Kid{k, k, {}}},
		{Entries: []api.Entry{f, {}}, Kids: []api.Kid{k}},
	}
}

func same(a, b api.Node) bool {
	return a.Leaf == b.Leaf && slices.EqualFunc(a.Entries, b.Entries, sameEntry) && slices.Equal(a.Kids, b.Kids)
}

func sameEntry(a, b api.Entry) bool {
	return a.Name == b.Name && slices.Equal(a.Versions, b.Versions)
}

func sameHeld(a, b api.Held) bool {
	return a.Ref == b.Ref && a.Pins == b.Pins && same(a.Node, b.Node)
}

// puts, gets, pins and unpins do a call that must be answered so.
func puts(t *testing.T, c *Cache, want api.Errno, r api.Ref, n api.Node) {
	t.Helper()
	if err := c.Put(r, n); err != want {
		t.Fatalf("Put(%v): %d, want %d", r, err, want)
	}
}

func gets(t *testing.T, c *Cache, r api.Ref, want api.Node) {
	t.Helper()
	if n, ok := c.Get(r); !ok || !same(n, want) {
		t.Fatalf("Get(%v): %v, %v, want %v", r, n, ok, want)
	}
}

func misses(t *testing.T, c *Cache, r api.Ref) {
	t.Helper()
	if n, ok := c.Get(r); ok || !same(n, api.Node{}) {
		t.Fatalf("Get(%v): %v, %v, want none", r, n, ok)
	}
}

func pins(t *testing.T, c *Cache, want api.Errno, r api.Ref) {
	t.Helper()
	if err := c.Pin(r); err != want {
		t.Fatalf("Pin(%v): %d, want %d", r, err, want)
	}
}

func unpins(t *testing.T, c *Cache, want api.Errno, r api.Ref) {
	t.Helper()
	if err := c.Unpin(r); err != want {
		t.Fatalf("Unpin(%v): %d, want %d", r, err, want)
	}
}

func drops(t *testing.T, c *Cache, want int, refs ...api.Ref) {
	t.Helper()
	if n := c.Drop(refs...); n != want {
		t.Fatalf("Drop(%v): %d, want %d", refs, n, want)
	}
}

// told is all that a cache tells.
type told struct {
	kept, found, missed int
	holds               []api.Held
}

func all(c *Cache) told {
	found, missed := c.Hits()
	return told{c.Kept(), found, missed, c.Holds()}
}

// stays holds all that a cache tells against what it must, twice: asking changes nothing.
func stays(t *testing.T, c *Cache, want told) {
	t.Helper()
	for range 2 {
		got := all(c)
		if got.kept != want.kept || got.found != want.found || got.missed != want.missed || !slices.EqualFunc(got.holds, want.holds, sameHeld) {
			t.Fatalf("%+v, want %+v", got, want)
		}
	}
}

// keeps holds what is kept against what must be.
func keeps(t *testing.T, c *Cache, want ...api.Held) {
	t.Helper()
	found, missed := c.Hits()
	stays(t, c, told{len(want), found, missed, want})
}

// held is what is kept under ref(key), of the node of that number.
func held(key uint64, n, pins int) api.Held {
	return api.Held{Ref: ref(key), Node: node(n), Pins: pins}
}

// plain is the chapter's words, one by one: what is kept stands in no order, each with the time of its last use.
type plain struct {
	room, now     int
	kept          map[api.Ref]plainHeld
	found, missed int
}

type plainHeld struct {
	node       api.Node
	pins, used int
}

func newPlain(room int) *plain { return &plain{room: room, kept: map[api.Ref]plainHeld{}} }

func (m *plain) put(r api.Ref, n api.Node) api.Errno {
	m.now++
	if h, ok := m.kept[r]; ok {
		m.kept[r] = plainHeld{n, h.pins, m.now}
		return 0
	}
	if len(m.kept) == m.room {
		goes, ok := m.longestAgo()
		if !ok {
			return 150
		}
		delete(m.kept, goes)
	}
	m.kept[r] = plainHeld{n, 0, m.now}
	return 0
}

// longestAgo is the one that is not pinned and was used longest ago.
func (m *plain) longestAgo() (api.Ref, bool) {
	var least api.Ref
	used := 0
	for r, h := range m.kept {
		if h.pins == 0 && (used == 0 || h.used < used) {
			least, used = r, h.used
		}
	}
	return least, used != 0
}

func (m *plain) get(r api.Ref) (api.Node, bool) {
	m.now++
	h, ok := m.kept[r]
	if !ok {
		m.missed++
		return api.Node{}, false
	}
	m.found++
	h.used = m.now
	m.kept[r] = h
	return h.node, true
}

func (m *plain) pin(r api.Ref) api.Errno {
	h, ok := m.kept[r]
	if !ok {
		return 3
	}
	h.pins++
	m.kept[r] = h
	return 0
}

func (m *plain) unpin(r api.Ref) api.Errno {
	h, ok := m.kept[r]
	if !ok {
		return 3
	}
	if h.pins == 0 {
		return 150
	}
	h.pins--
	m.kept[r] = h
	return 0
}

func (m *plain) drop(refs []api.Ref) int {
	n := 0
	for _, r := range refs {
		if _, ok := m.kept[r]; ok {
			delete(m.kept, r)
			n++
		}
	}
	return n
}

func (m *plain) wipe() { m.kept = map[api.Ref]plainHeld{} }

func (m *plain) told() told {
	l := told{kept: len(m.kept), found: m.found, missed: m.missed}
	for r, h := range m.kept {
		l.holds = append(l.holds, api.Held{Ref: r, Node: h.node, Pins: h.pins})
	}
	slices.SortFunc(l.holds, func(a, b api.Held) int { return m.kept[a.Ref].used - m.kept[b.Ref].used })
	return l
}
