package cache

import (
	"slices"
	"testing"

	"lethe/api"
)

// places are all places of all lists of a node, those of the spare room too.
func places(n api.Node) []any {
	var l []any
	entries := n.Entries[:cap(n.Entries)]
	for i := range entries {
		l = append(l, &entries[i])
		versions := entries[i].Versions[:cap(entries[i].Versions)]
		for k := range versions {
			l = append(l, &versions[k])
		}
	}
	kids := n.Kids[:cap(n.Kids)]
	for i := range kids {
		l = append(l, &kids[i])
	}
	return l
}

// heldPlaces are likewise those of what is held.
func heldPlaces(l []api.Held) []any {
	var all []any
	l = l[:cap(l)]
	for i := range l {
		all = append(append(all, &l[i]), places(l[i].Node)...)
	}
	return all
}

// shared tells whether a place stands in two of the rows.
func shared(rows ...[]any) bool {
	seen := map[any]int{}
	for i, row := range rows {
		for _, p := range row {
			if at, ok := seen[p]; ok && at != i {
				return true
			}
			seen[p] = i
		}
	}
	return false
}

// spoil writes over all lists of a node, and over the spare room behind them.
func spoil(n api.Node) {
	entries := n.Entries[:cap(n.Entries)]
	for i := range entries {
		versions := entries[i].Versions[:cap(entries[i].Versions)]
		for k := range versions {
			versions[k] = api.Version{No: 99, Value: "spoilt", Note: "spoilt"}
		}
		entries[i].Name = "spoilt"
	}
	kids := n.Kids[:cap(n.Kids)]
	for i := range kids {
		kids[i] = api.Kid{Low: "spoilt"}
	}
}

// roomy are the odd nodes with spare room behind all their lists.
func roomy() []api.Node {
	l := odd()
	for i, n := range l {
		l[i].Entries = slices.Grow(n.Entries, 2)
		l[i].Kids = slices.Grow(n.Kids, 2)
		for k, e := range n.Entries {
			l[i].Entries[k].Versions = slices.Grow(e.Versions, 2)
		}
	}
	return l
}

// R4: what is written over what was put, or was answered, does not show; no two answers share memory.
func TestMemoryOfItsOwn(t *testing.T) {
	for i, n := range roomy() {
		want := odd()[i]
		c := made(t, 2)
		puts(t, c, api.OK, ref(1), n)
		puts(t, c, api.OK, ref(2), n)
		if !same(n, want) {
			t.Errorf("node %d was changed", i)
		}
		first, _ := c.Get(ref(1))
		second, _ := c.Get(ref(1))
		third, _ := c.Get(ref(2))
		holds, again := c.Holds(), c.Holds()
		if shared(places(n), places(first), places(second), places(third), heldPlaces(holds), heldPlaces(again)) {
			t.Errorf("node %d: memory is shared", i)
		}
		if shared(places(holds[0].Node), places(holds[1].Node)) {
			t.Errorf("node %d: Holds has two lists that share memory", i)
		}
		if shared(places(n), heldPlaces(c.held)) || shared(heldPlaces(holds), heldPlaces(c.held)) || shared(places(first), heldPlaces(c.held)) {
			t.Errorf("node %d: the cache keeps what is not its own", i)
		}
		spoil(n)
		spoil(first)
		spoil(holds[0].Node)
		spoil(holds[1].Node)
		holds[0].Pins, holds[1] = 7, api.Held{}
		if !same(second, want) || !same(third, want) || !same(again[0].Node, want) || !same(again[1].Node, want) {
			t.Errorf("node %d: an answer was changed", i)
		}
		keeps(t, c, api.Held{Ref: ref(1), Node: want}, api.Held{Ref: ref(2), Node: want})
	}
}

// R4: two lists of one node that are one and the same are two, when they are answered; so are two nodes that were put of the same lists.
func TestListsThatWereShared(t *testing.T) {
	versions := []api.Version{{No: 1, Value: "x"}}
	n := api.Node{Leaf: true, Entries: []api.Entry{{Name: "a", Versions: versions}, {Name: "b", Versions: versions}}}
	c := made(t, 1)
	puts(t, c, api.OK, ref(1), n)
	got, _ := c.Get(ref(1))
	got.Entries[0].Versions[0].No = 5
	if got.Entries[1].Versions[0].No != 1 {
		t.Error("two lists of an answer share memory")
	}
	gets(t, c, ref(1), n)
}

// R4: the references that are handed in are not changed, nor the spare room behind them; what they are later does not matter.
func TestDropKeepsNothing(t *testing.T) {
	refs := []api.Ref{ref(3), ref(1), ref(9), ref(8)}
	c := made(t, 3)
	for i := 1; i <= 3; i++ {
		puts(t, c, api.OK, ref(uint64(i)), node(i))
	}
	drops(t, c, 2, refs[:3]...)
	if !slices.Equal(refs, []api.Ref{ref(3), ref(1), ref(9), ref(8)}) {
		t.Errorf("changed: %v", refs)
	}
	clear(refs)
	keeps(t, c, held(2, 2, 0))
}

// R5: an empty list is put as none, and none is answered as an empty one may be.
func TestEmptyLists(t *testing.T) {
	c := made(t, 2)
	puts(t, c, api.OK, ref(1), api.Node{Entries: []api.Entry{}, Kids: []api.Kid{}})
	gets(t, c, ref(1), api.Node{})
	puts(t, c, api.OK, ref(2), api.Node{Entries: []api.Entry{{Versions: []api.Version{}}}})
	gets(t, c, ref(2), api.Node{Entries: []api.Entry{{}}})
	drops(t, c, 0)
	drops(t, c, 0, []api.Ref{}...)
}

// blank tells whether nothing stands in the lists of what was held.
func blank(n api.Node) bool {
	for _, e := range n.Entries[:cap(n.Entries)] {
		if e.Name != "" || len(e.Versions) > 0 {
			return false
		}
	}
	for _, k := range n.Kids[:cap(n.Kids)] {
		if k != (api.Kid{}) {
			return false
		}
	}
	return true
}

// P15.5: nothing of what was wiped is left in the cache's memory: not behind what is kept, and not in the lists that it had there.
func TestNothingIsLeft(t *testing.T) {
	for name, wipe := range map[string]func(c *Cache){
		"by Drop":         func(c *Cache) { c.Drop(ref(3), ref(1)) },
		"by Wipe":         func(c *Cache) { c.Wipe() },
		"as room lacked":  func(c *Cache) { c.Put(ref(4), node(4)); c.Put(ref(5), node(5)); c.Drop(ref(4), ref(5)) },
		"as it was over":  func(c *Cache) { c.Put(ref(1), node(4)); c.Put(ref(3), node(5)); c.Drop(ref(1), ref(3)) },
		"one by one, all": func(c *Cache) { c.Drop(ref(2)); c.Drop(ref(1), ref(3)) },
	} {
		for i, n := range odd() {
			c := made(t, 3)
			for key := uint64(1); key <= 3; key++ {
				puts(t, c, api.OK, ref(key), n)
			}
			gets(t, c, ref(2), n)
			var lists []api.Node
			var versions [][]api.Version
			for _, h := range c.held {
				if h.Ref != ref(2) {
					lists = append(lists, h.Node)
					for _, e := range h.Node.Entries {
						versions = append(versions, e.Versions)
					}
				}
			}
			start := c.held[:1]
			wipe(c)
			for _, h := range c.held[len(c.held):cap(c.held)] {
				if !sameHeld(h, api.Held{}) {
					t.Errorf("%s: node %d: behind what is kept stands %v", name, i, h)
				}
			}
			for _, old := range lists {
				if !blank(old) {
					t.Errorf("%s: node %d: its lists are left: %v", name, i, old)
				}
			}
			for _, l := range versions {
				for _, v := range l {
					if v != (api.Version{}) {
						t.Errorf("%s: node %d: a version is left: %v", name, i, v)
					}
				}
			}
			if &start[0] != &c.held[:1][0] {
				t.Errorf("%s: the room was made anew, and the old one is left", name)
			}
		}
	}
}

// P15.5: no room is ever left behind, as all of it is there from the beginning on.
func TestRoomIsMadeOnce(t *testing.T) {
	for room := 1; room <= api.MaxCache; room++ {
		c := made(t, room)
		start := &c.held[:1][0]
		for i := range 100 {
			c.Put(ref(uint64(i)), node(i))
			c.Get(ref(uint64(i / 2)))
			if start != &c.held[0] {
				t.Fatalf("room %d: it was made anew behind %d calls", room, i)
			}
		}
	}
}

// R6: two caches of the same calls tell the same, and one knows nothing of the other.
func TestCachesApart(t *testing.T) {
	a, b, other := made(t, 2), made(t, 2), made(t, 2)
	for i := range 50 {
		for _, c := range []*Cache{a, b} {
			c.Put(ref(uint64(i%5)), node(i))
			c.Get(ref(uint64(i % 3)))
			c.Pin(ref(uint64(i % 7)))
			c.Unpin(ref(uint64(i % 2)))
		}
		stays(t, a, all(b))
		stays(t, other, told{})
	}
}
