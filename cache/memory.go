package cache

import "lethe/api"

// copied is the same node in new memory, down to its secrets' versions.
func copied(n api.Node) api.Node {
	own := api.Node{Leaf: n.Leaf, Entries: newList(n.Entries), Kids: newList(n.Kids)}
	for i, e := range own.Entries {
		own.Entries[i].Versions = newList(e.Versions)
	}
	return own
}

// newList is the same list in new memory. (Of an empty one slices.Clone would keep the place.)
func newList[T any](l []T) []T { return append([]T(nil), l...) }

// forget wipes what was kept, and the lists in it too: they lie in the memory for as long as nobody collects them.
func forget(l []api.Held) {
	for _, h := range l {
		for _, e := range h.Node.Entries {
			clear(e.Versions)
		}
		clear(h.Node.Entries)
		clear(h.Node.Kids)
	}
	clear(l)
}
