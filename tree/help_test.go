package tree

import (
	"slices"
	"testing"

	"lethe/api"
)

func ver(no int, value, note string) api.Version {
	return api.Version{No: no, Value: value, Note: note}
}

func secret(name string, l ...api.Version) api.Entry {
	return api.Entry{Name: name, Versions: l}
}

// plain is the chapter's secret of a name.
func plain(name string) api.Entry { return secret(name, ver(1, "", "")) }

// leafOf is a leaf of plain secrets, a byte a name.
func leafOf(names string) api.Node {
	n := api.Node{Leaf: true}
	for i := range len(names) {
		n.Entries = append(n.Entries, plain(names[i:i+1]))
	}
	return n
}

func innerOf(l ...api.Kid) api.Node { return api.Node{Kids: l} }

func kid(low string, page int) api.Kid { return api.Kid{Low: low, Ref: ref(page)} }

// ref is the reference of a heap's page, by the chapter's words.
func ref(page int) api.Ref {
	return api.Ref{Key: uint64(page) + 1, Seg: page / 4, Off: page % 4, Len: 1}
}

// nowhere is no heap's page.
var nowhere = api.Ref{Key: 1 << 40, Len: 1}

// same, sameEntry take nil and an empty list as one (R5).
func same(a, b api.Node) bool {
	return a.Leaf == b.Leaf && slices.EqualFunc(a.Entries, b.Entries, sameEntry) && slices.Equal(a.Kids, b.Kids)
}

func sameEntry(a, b api.Entry) bool {
	return a.Name == b.Name && slices.Equal(a.Versions, b.Versions)
}

func sameSeen(a, b api.Seen) bool {
	return a.Deep == b.Deep && a.Ref == b.Ref && same(a.Node, b.Node)
}

// places are all places of all lists of a node, those of the spare room too.
func places(n api.Node) []any {
	var all []any
	entries := n.Entries[:cap(n.Entries)]
	for i := range entries {
		all = append(append(all, &entries[i]), versionPlaces(entries[i])...)
	}
	kids := n.Kids[:cap(n.Kids)]
	for i := range kids {
		all = append(all, &kids[i])
	}
	return all
}

func versionPlaces(e api.Entry) []any {
	var all []any
	versions := e.Versions[:cap(e.Versions)]
	for i := range versions {
		all = append(all, &versions[i])
	}
	return all
}

// shared tells whether a place comes twice in these.
func shared(all ...[]any) bool {
	seen := map[any]bool{}
	for _, p := range slices.Concat(all...) {
		if seen[p] {
			return true
		}
		seen[p] = true
	}
	return false
}

// spoil writes over all that a node has, spare room too.
func spoil(n api.Node) {
	for _, e := range n.Entries[:cap(n.Entries)] {
		clear(e.Versions[:cap(e.Versions)])
	}
	clear(n.Entries[:cap(n.Entries)])
	clear(n.Kids[:cap(n.Kids)])
}

// put, drop and lay are calls that must be well.
func put(t *testing.T, p Pages, root api.Ref, l ...api.Entry) api.Ref {
	t.Helper()
	for _, e := range l {
		r, err := Put(p, root, e)
		if err != api.OK {
			t.Fatalf("Put %v: %d", e, err)
		}
		root = r
	}
	return root
}

func drop(t *testing.T, p Pages, root api.Ref, names ...string) api.Ref {
	t.Helper()
	for _, name := range names {
		r, there, err := Delete(p, root, name)
		if err != api.OK || !there {
			t.Fatalf("Delete %q: %v, %d", name, there, err)
		}
		root = r
	}
	return root
}

func lay(t *testing.T, p Pages, n api.Node) api.Ref {
	t.Helper()
	r, err := p.Write(n)
	if err != api.OK {
		t.Fatalf("Write: %d", err)
	}
	return r
}

func empty(t *testing.T, p Pages) api.Ref {
	t.Helper()
	r, err := Empty(p)
	if err != api.OK {
		t.Fatalf("Empty: %d", err)
	}
	return r
}

// letters are plain secrets, a byte a name.
func letters(names string) []api.Entry { return leafOf(names).Entries }

// expect looks whether the pages from one on, and no more, are these.
func expect(t *testing.T, h *Heap, from int, want ...api.Node) {
	t.Helper()
	if h.Len() != from+len(want) {
		t.Fatalf("%d pages, want %d", h.Len(), from+len(want))
	}
	for i, n := range want {
		if got, err := h.Read(ref(from + i)); err != api.OK || !same(got, n) {
			t.Fatalf("page %d: %v, %d, want %v", from+i, got, err, n)
		}
	}
}

// found are all secrets that All comes to.
func found(t *testing.T, p Pages, root api.Ref) []api.Entry {
	t.Helper()
	seen, err := All(p, root)
	if err != api.OK {
		t.Fatalf("All: %d", err)
	}
	var l []api.Entry
	for _, s := range seen {
		l = append(l, s.Node.Entries...)
	}
	return l
}

// mayBe looks whether a tree may be, by the chapter's words: its levels.
func mayBe(t *testing.T, p Pages, root api.Ref) int {
	t.Helper()
	levels := 0
	var walk func(r api.Ref, deep int) []string
	walk = func(r api.Ref, deep int) []string {
		n, err := p.Read(r)
		count := len(n.Entries) + len(n.Kids)
		if err != api.OK || deep > api.MaxLevel || count > 4 || count < 2 && (deep > 1 || !n.Leaf) {
			t.Fatalf("%v, %d deep: %v, %d", r, deep, n, err)
		}
		var names []string
		for _, e := range n.Entries {
			names = append(names, e.Name)
		}
		if n.Leaf && levels == 0 {
			levels = deep
		}
		if n.Leaf && (levels != deep || len(n.Kids) > 0) || !n.Leaf && len(n.Entries) > 0 {
			t.Fatalf("%v, %d deep of %d: %v", r, deep, levels, n)
		}
		for _, k := range n.Kids {
			below := walk(k.Ref, deep+1)
			if below[0] != k.Low {
				t.Fatalf("%v: the low %q of %q", r, k.Low, below)
			}
			names = append(names, below...)
		}
		return names
	}
	names := walk(root, 1)
	for i := range names {
		if i > 0 && names[i-1] >= names[i] {
			t.Fatalf("the names do not rise: %q", names)
		}
	}
	return levels
}

// dice are ever the same throws, so that a test that fails fails again.
type dice uint64

func (d *dice) below(n int) int {
	*d = *d*6364136223846793005 + 1442695040888963407
	return int(uint64(*d) >> 33 % uint64(n))
}
