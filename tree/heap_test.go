package tree

import (
	"math"
	"testing"

	"lethe/api"
)

// odd are nodes of all kinds: a heap takes any.
func odd() []api.Node {
	return []api.Node{
		{}, {Leaf: true}, leafOf("a"), leafOf("dcba"), leafOf("aaaaaaaa"),
		{Leaf: true, Entries: []api.Entry{secret("a"), secret("b", ver(3, "x", "n"), ver(9, "y", "m")), {}}},
		innerOf(kid("a", 0)), innerOf(kid("b", 9), kid("a", 9), kid("", 10)), innerOf(api.Kid{}),
		{Leaf: true, Kids: []api.Kid{kid("a", 0)}}, {Entries: letters("ab")}, both(true), both(false),
		{Entries: []api.Entry{}, Kids: []api.Kid{}}, leafOf("a"),
	}
}

// both is a node of many parts of each kind, none of which may be.
func both(leaf bool) api.Node {
	n := api.Node{Leaf: leaf}
	for range 40 {
		n.Entries = append(n.Entries, secret("x", ver(-1, "v", "n"), ver(-1, "", "")))
		n.Kids = append(n.Kids, api.Kid{Low: "l", Ref: api.Ref{Key: 7, Seg: -1, Off: -1, Len: -1}})
	}
	return n
}

// P7.1: pages are numbered as they are laid down, four a segment; each is read as it was written.
func TestHeap(t *testing.T) {
	h := NewHeap()
	if h.Len() != 0 {
		t.Errorf("a new heap has %d pages", h.Len())
	}
	for i, n := range odd() {
		if r, err := h.Write(n); err != api.OK || r != ref(i) {
			t.Errorf("page %d: %v, %d", i, r, err)
		}
		if h.Len() != i+1 {
			t.Errorf("%d pages, want %d", h.Len(), i+1)
		}
	}
	for range 2 {
		expect(t, h, 0, odd()...)
	}
	if r, err := NewHeap().Write(leafOf("a")); err != api.OK || r != (api.Ref{Key: 1, Len: 1}) {
		t.Errorf("the first page of a heap of its own: %v, %d", r, err)
	}
}

// P7.1: a reference that is no page's in just one field leads to nothing.
func TestReadOfOtherReferences(t *testing.T) {
	h := NewHeap()
	missing := []api.Ref{{}, nowhere, ref(0)}
	check := func() {
		t.Helper()
		for _, r := range missing {
			if n, err := h.Read(r); err != api.ErrPage || !same(n, api.Node{}) {
				t.Errorf("%v: %v, %d", r, n, err)
			}
		}
	}
	check()
	for range 10 {
		h.Write(leafOf("a"))
	}
	missing = []api.Ref{{}, nowhere, {Len: 1}, ref(10), ref(11), {Key: math.MaxUint64, Len: 1}, {Key: 1<<63 + 1, Len: 1}, {Key: 1<<32 + 1, Len: 1}, ref(-1)}
	for page := range 10 {
		r := ref(page)
		for _, other := range []uint64{0, r.Key - 1, r.Key + 1, r.Key + 4, r.Key | 1<<32, r.Key | 1<<63, math.MaxUint64} {
			missing = append(missing, api.Ref{Key: other, Seg: r.Seg, Off: r.Off, Len: r.Len})
		}
		for _, by := range []int{-4, -1, 1, 4, 1 << 32, math.MinInt, math.MaxInt - 9} {
			missing = append(missing,
				api.Ref{Key: r.Key, Seg: r.Seg + by, Off: r.Off, Len: r.Len},
				api.Ref{Key: r.Key, Seg: r.Seg, Off: r.Off + by, Len: r.Len},
				api.Ref{Key: r.Key, Seg: r.Seg, Off: r.Off, Len: r.Len + by})
		}
		missing = append(missing, api.Ref{Key: r.Key, Seg: r.Seg - 1, Off: r.Off + 4, Len: 1})
	}
	check()
	if h.Len() != 10 {
		t.Errorf("%d pages", h.Len())
	}
}

// P7.1: so many pages as may be, and none more; those that are there stay.
func TestFullHeap(t *testing.T) {
	h := NewHeap()
	for i := range api.MaxHeap {
		if r, err := h.Write(innerOf(kid("a", i))); err != api.OK || r != ref(i) {
			t.Fatalf("page %d: %v, %d", i, r, err)
		}
	}
	for range 2 {
		if r, err := h.Write(leafOf("a")); err != api.ErrLong || r != (api.Ref{}) {
			t.Errorf("one too many: %v, %d", r, err)
		}
	}
	if h.Len() != api.MaxHeap {
		t.Errorf("%d pages", h.Len())
	}
	for i := range api.MaxHeap {
		if n, err := h.Read(ref(i)); err != api.OK || !same(n, innerOf(kid("a", i))) {
			t.Fatalf("page %d: %v, %d", i, n, err)
		}
	}
	if _, err := h.Read(ref(api.MaxHeap)); err != api.ErrPage {
		t.Errorf("one behind the last: %d", err)
	}
}

// P7.1, R4: what is written over what was handed in, or came out, does not show; no two answers share memory.
func TestHeapKeepsItsOwn(t *testing.T) {
	h := NewHeap()
	for i, n := range odd() {
		n.Entries = append(n.Entries, secret("r", ver(5, "s", "t")))[:len(n.Entries)]
		n.Kids = append(n.Kids, kid("r", 5))[:len(n.Kids)]
		h.Write(n)
		if !same(n, odd()[i]) || n.Entries[:len(n.Entries)+1][len(n.Entries)].Name != "r" || n.Kids[:len(n.Kids)+1][len(n.Kids)] != kid("r", 5) {
			t.Errorf("node %d was changed", i)
		}
		first, _ := h.Read(ref(i))
		second, _ := h.Read(ref(i))
		if shared(places(n), places(first), places(second)) {
			t.Errorf("page %d: memory is shared", i)
		}
		spoil(n)
		spoil(first)
		if !same(second, odd()[i]) {
			t.Errorf("page %d: an answer was changed", i)
		}
	}
	expect(t, h, 0, odd()...)
}
