package list

import (
	"slices"
	"strings"
	"testing"

	"lethe/api"
	"lethe/tree"
)

// q is the chapters' quota.
var q = api.Quota{Secrets: 10, Name: 8, Value: 10, Note: 4, Versions: 2, Batch: 2, Cache: 3}

// secret is one of two versions, that tell whose they are.
func secret(name string) api.Entry {
	text := name[:min(len(name), 4)]
	return api.Entry{Name: name, Versions: []api.Version{{No: 1, Value: text, Note: text}, {No: 3, Value: "v" + text}}}
}

func secretsOf(names ...string) []api.Entry {
	var l []api.Entry
	for _, name := range names {
		l = append(l, secret(name))
	}
	return l
}

// letters are names of a byte each.
func letters(s string) []string { return strings.Split(s, "") }

func leaf(names ...string) api.Node { return api.Node{Leaf: true, Entries: secretsOf(names...)} }

func inner(kids ...api.Kid) api.Node { return api.Node{Kids: kids} }

func kid(low string, r api.Ref) api.Kid { return api.Kid{Low: low, Ref: r} }

// heapRef is the reference of a heap's page.
func heapRef(page int) api.Ref {
	return api.Ref{Key: uint64(page) + 1, Seg: page / 4, Off: page % 4, Len: 1}
}

// shelf is pages that lie under any references, and are handed out as they are kept.
type shelf struct {
	pages map[api.Ref]api.Node
	wrote int
}

func newShelf() *shelf { return &shelf{pages: map[api.Ref]api.Node{}} }

func (s *shelf) Read(r api.Ref) (api.Node, api.Errno) {
	n, is := s.pages[r]
	if !is {
		return api.Node{}, api.ErrPage
	}
	return n, api.OK
}

func (s *shelf) Write(n api.Node) (api.Ref, api.Errno) {
	s.wrote++
	return s.lay(n, 1), api.OK
}

// lay puts a page of so many bytes on the shelf.
func (s *shelf) lay(n api.Node, bytes int) api.Ref {
	r := api.Ref{Key: uint64(len(s.pages)) + 9, Seg: len(s.pages), Off: 2, Len: bytes}
	s.pages[r] = n
	return r
}

// failing are pages of which one Read, counted from 1 on, is refused; what is answered beside the error is not to be heeded.
type failing struct {
	tree.Pages
	at  int
	err api.Errno
}

func (f *failing) Read(r api.Ref) (api.Node, api.Errno) {
	f.at--
	if f.at == 0 {
		return leaf("a", "b"), f.err
	}
	return f.Pages.Read(r)
}

// broken are pages that panic.
type broken struct{}

func (broken) Read(r api.Ref) (api.Node, api.Errno) { panic("read") }

func (broken) Write(n api.Node) (api.Ref, api.Errno) { panic("write") }

// made is a tree of secrets put in as they come.
func made(t *testing.T, p tree.Pages, names ...string) api.Ref {
	t.Helper()
	root, err := tree.Empty(p)
	for _, e := range secretsOf(names...) {
		if err == api.OK {
			root, err = tree.Put(p, root, e)
		}
	}
	if err != api.OK {
		t.Fatalf("a tree of %q: %d", names, err)
	}
	return root
}

// grouped is a tree each of whose nodes has so many parts, the last one of each level those that are left.
func grouped(s *shelf, fan int, names []string) api.Ref {
	var kids []api.Kid
	for l := range slices.Chunk(names, fan) {
		kids = append(kids, kid(l[0], s.lay(leaf(l...), 1)))
	}
	for len(kids) > 1 {
		var above []api.Kid
		for l := range slices.Chunk(kids, fan) {
			above = append(above, kid(l[0].Low, s.lay(inner(l...), 1)))
		}
		kids = above
	}
	return kids[0].Ref
}

// counted are n names that rise.
func counted(n int) []string {
	var l []string
	for i := range n {
		l = append(l, string([]byte{byte('a' + i/16), byte('a' + i%16)}))
	}
	return l
}

// many are names of up to three bytes, also of the least and the greatest ones, many of which begin another one.
func many() []string {
	var l []string
	for _, a := range []string{"\x00", "a", "b", "\x7f", "\x80", "\xfe", "\xff"} {
		l = append(l, a)
		for _, b := range []string{"\x00", "a", "\xff"} {
			l = append(l, a+b, a+b+"\x00", a+b+"\xff")
		}
	}
	return l
}

// asks are texts that stand before, at, between and behind such names.
func asks() []string {
	l := append(many(), "", "\x00\x00\x00\x00", "B", "a\x00\x00", "aaa", "ab", "abc", "c", "\xfd", "\xff\xff\xff", "\xff\xff\xff\xff", strings.Repeat("\xff", 300))
	slices.Sort(l)
	return slices.Compact(l)
}

// trees are trees that may be, of several shapes, with the names in them.
func trees(t *testing.T, do func(p tree.Pages, root api.Ref, names []string)) {
	t.Helper()
	all := many()
	slices.Sort(all)
	for _, n := range []int{0, 1, 2, 3, 4, 5, 8, 11, 16, 17, 40, len(all)} {
		d := dice(n)
		var names []string
		for _, i := range d.order(len(all))[:n] {
			names = append(names, all[i])
		}
		h := tree.NewHeap()
		root := made(t, h, names...)
		slices.Sort(names)
		do(h, root, names)
	}
	for _, x := range []struct{ fan, n int }{{4, 4}, {2, 4}, {4, 16}, {3, 27}, {4, 64}, {2, 64}} {
		s := newShelf()
		do(s, grouped(s, x.fan, all[:x.n]), all[:x.n])
	}
}

// sameSecrets takes nil and an empty list as one (R5).
func sameSecrets(a, b []api.Entry) bool { return slices.EqualFunc(a, b, sameSecret) }

func sameSecret(a, b api.Entry) bool {
	return a.Name == b.Name && slices.Equal(a.Versions, b.Versions)
}

// spoil writes over all that a list has, and over its secrets' versions, spare room too.
func spoil(l []api.Entry) {
	l = l[:cap(l)]
	for _, e := range l {
		clear(e.Versions[:cap(e.Versions)])
	}
	clear(l)
}

// places are all places of a list, and of its secrets' versions, spare room too.
func places(l []api.Entry) []any {
	var all []any
	l = l[:cap(l)]
	for i := range l {
		all = append(all, &l[i])
		versions := l[i].Versions[:cap(l[i].Versions)]
		for j := range versions {
			all = append(all, &versions[j])
		}
	}
	return all
}

// shared tells whether a place comes twice in these.
func shared(all ...[]any) bool {
	seen := map[any]bool{}
	for _, p := range slices.Concat(all...) {
		if seen[p] {
			return true
		}
		seen[p] = true
	}
	return false
}

// dice are ever the same throws, so that a test that fails fails again.
type dice uint64

func (d *dice) below(n int) int {
	*d = *d*6364136223846793005 + 1442695040888963407
	return int(uint64(*d) >> 33 % uint64(n))
}

// order is the numbers below n in some order.
func (d *dice) order(n int) []int {
	var l []int
	for i := range n {
		l = slices.Insert(l, d.below(i+1), i)
	}
	return l
}
