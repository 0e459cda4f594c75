package tree

import (
	"slices"

	"lethe/api"
)

// Heap is pages in memory.
type Heap struct {
	pages []api.Node
}

// NewHeap makes one without pages.
func NewHeap() *Heap { return &Heap{} }

// Read is a page; Write lays one down.
func (h *Heap) Read(r api.Ref) (api.Node, api.Errno) {
	// Without a page its number is too great, of the key 0 too: that wraps round.
	n := r.Key - 1
	if n >= uint64(len(h.pages)) || r != numbered(int(n)) {
		return api.Node{}, api.ErrPage
	}
	return copied(h.pages[n]), api.OK
}

func (h *Heap) Write(n api.Node) (api.Ref, api.Errno) {
	if len(h.pages) >= api.MaxHeap {
		return api.Ref{}, api.ErrLong
	}
	h.pages = append(h.pages, copied(n))
	return numbered(len(h.pages) - 1), api.OK
}

// numbered is the reference of the page of that number.
func numbered(n int) api.Ref {
	return api.Ref{Key: uint64(n) + 1, Seg: n / 4, Off: n % 4, Len: 1}
}

// Len is how many pages there are.
func (h *Heap) Len() int { return len(h.pages) }

// copied is the same node in new memory, down to its secrets' versions.
func copied(n api.Node) api.Node {
	own := api.Node{Leaf: n.Leaf, Entries: slices.Clone(n.Entries), Kids: slices.Clone(n.Kids)}
	for i, e := range own.Entries {
		own.Entries[i] = copiedEntry(e)
	}
	return own
}

func copiedEntry(e api.Entry) api.Entry {
	return api.Entry{Name: e.Name, Versions: slices.Clone(e.Versions)}
}
