package tree

import (
	"math"
	"slices"
	"testing"

	"lethe/api"
)

// failing are pages of which one Read or one Write, counted from 1 on, is refused; what they answer beside the error is not to be heeded.
type failing struct {
	store
	read, write int
	err         api.Errno
}

func (f *failing) Read(r api.Ref) (api.Node, api.Errno) {
	f.read--
	if f.read == 0 {
		return leafOf("abc"), f.err
	}
	return f.store.Read(r)
}

func (f *failing) Write(n api.Node) (api.Ref, api.Errno) {
	f.write--
	if f.write == 0 {
		return ref(0), f.err
	}
	return f.store.Write(n)
}

// broken are pages that panic.
type broken struct{}

func (broken) Read(r api.Ref) (api.Node, api.Errno) { panic("read") }

func (broken) Write(n api.Node) (api.Ref, api.Errno) { panic("write") }

// half are pages that can be read, but panic as one is written.
type half struct{ store }

func (half) Write(n api.Node) (api.Ref, api.Errno) { panic("write") }

// call is one of the chapter's, and whether there is nothing beside its error (R2).
type call func(p Pages, root api.Ref) (api.Errno, bool)

// calls are all of them, each on what a name says.
func calls(name string) map[string]call {
	return map[string]call{
		"Get": func(p Pages, root api.Ref) (api.Errno, bool) {
			e, there, err := Get(p, root, name)
			return err, !there && sameEntry(e, api.Entry{})
		},
		"Put": func(p Pages, root api.Ref) (api.Errno, bool) {
			r, err := Put(p, root, plain(name))
			return err, r == api.Ref{}
		},
		"Delete": func(p Pages, root api.Ref) (api.Errno, bool) {
			r, there, err := Delete(p, root, name)
			return err, !there && r == api.Ref{}
		},
		"Move": func(p Pages, root api.Ref) (api.Errno, bool) {
			var segs []int
			for seg := range 10000 {
				segs = append(segs, seg)
			}
			r, n, err := Move(p, root, segs...)
			return err, r == api.Ref{} && n == 0
		},
		"All": func(p Pages, root api.Ref) (api.Errno, bool) {
			l, err := All(p, root)
			return err, len(l) == 0
		},
	}
}

// refuse looks whether calls answer an error, nothing beside it, and lay nothing down.
func refuse(t *testing.T, p store, root api.Ref, name string, want api.Errno, which ...string) {
	t.Helper()
	for what, c := range calls(name) {
		pages := p.Len()
		err, bare := c(p, root)
		if slices.Contains(which, what) && (err != want || !bare || p.Len() != pages) {
			t.Errorf("%s %q: %d, want %d (nothing beside it: %v; %d pages more)", what, name, err, want, bare, p.Len()-pages)
		}
		if !slices.Contains(which, what) && err != api.OK {
			t.Errorf("%s %q: %d", what, name, err)
		}
	}
}

// every are the names of all calls.
var every = []string{"Get", "Put", "Delete", "Move", "All"}

// P7.7: a page that can't be read, whichever it is: its error, and nothing is laid down; a Write that is refused: its error.
func TestEachReadAndWriteRefused(t *testing.T) {
	h := NewHeap()
	root := empty(t, h)
	for i := range 30 {
		root = put(t, h, root, plain(string(rune('a'+i*7%30))))
	}
	levels := mayBe(t, h, root)
	pages := h.Len()
	for _, e := range found(t, h, root) {
		for what, c := range calls(e.Name) {
			for _, err := range []api.Errno{api.ErrPower, api.ErrTree, -7, math.MaxInt} {
				reads := refused(t, h, root, what, c, err, func(n int) *failing { return &failing{store: h, read: n, err: err} })
				if reads < levels {
					t.Errorf("%s read %d pages", what, reads)
				}
				if h.Len() != pages {
					h = again(t, h, pages)
				}
			}
		}
	}
	written := map[string]int{}
	for i, e := range found(t, h, root) {
		name := e.Name
		if i%2 == 0 {
			name += "x"
		}
		for what, c := range calls(name) {
			written[what] = max(written[what], refused(t, h, root, what, c, api.ErrSegs, func(n int) *failing { return &failing{store: h, write: n, err: api.ErrSegs} }))
			mayBe(t, h, root)
			h = again(t, h, pages)
		}
	}
	if written["Put"] <= levels || written["Delete"] < levels || written["Move"] < levels || written["Get"]+written["All"] > 0 {
		t.Errorf("so many pages were written: %v", written)
	}
}

// refused lets one after the other be refused, till a call meets none more: how many there were.
func refused(t *testing.T, h *Heap, root api.Ref, what string, c call, want api.Errno, with func(n int) *failing) int {
	t.Helper()
	for n := 1; ; n++ {
		f, pages := with(n), h.Len()
		laid := f.write - 1
		err, bare := c(f, root)
		if f.read > 0 || f.write > 0 {
			return n - 1
		}
		if err != want || !bare {
			t.Fatalf("%s, %d refused: %d, want %d (nothing beside it: %v)", what, n, err, want, bare)
		}
		if h.Len() != pages+max(0, laid) {
			t.Fatalf("%s, %d refused: %d pages were laid down, want %d", what, n, h.Len()-pages, max(0, laid))
		}
	}
}

// again is a heap of just the first pages.
func again(t *testing.T, h *Heap, pages int) *Heap {
	t.Helper()
	first := NewHeap()
	for i := range pages {
		n, _ := h.Read(ref(i))
		lay(t, first, n)
	}
	return first
}

// P7.7: a heap without room: ErrLong of what would lay a page down, and of nothing else.
func TestFullHeapRefuses(t *testing.T) {
	h := NewHeap()
	root := put(t, h, empty(t, h), letters("abcdefg")...)
	for h.Len() < api.MaxHeap {
		lay(t, h, leafOf(""))
	}
	if r, err := Empty(h); err != api.ErrLong || r != (api.Ref{}) {
		t.Errorf("Empty: %v, %d", r, err)
	}
	refuse(t, h, root, "d", api.ErrLong, "Put", "Delete", "Move")
	refuse(t, h, root, "x", api.ErrLong, "Put", "Move")
	if r, n, err := Move(h, root, -1); err != api.OK || n != 0 || r != root {
		t.Errorf("Move of nothing: %v, %d, %d", r, n, err)
	}
}

// P7.7, R1: pages that panic, and no pages at all, can't be read or written.
func TestPagesThatPanic(t *testing.T) {
	for what, p := range map[string]Pages{"nil": nil, "broken": broken{}, "half": half{}} {
		if r, err := Empty(p); err != api.ErrPage || r != (api.Ref{}) {
			t.Errorf("%s: Empty: %v, %d", what, r, err)
		}
		for name, c := range calls("a") {
			if err, bare := c(p, ref(0)); err != api.ErrPage || !bare {
				t.Errorf("%s: %s: %d", what, name, err)
			}
		}
	}
	h := NewHeap()
	root := put(t, h, empty(t, h), letters("abcde")...)
	for name, c := range calls("a") {
		err, _ := c(half{h}, root)
		if reads := name == "Get" || name == "All"; reads != (err == api.OK) || !reads && err != api.ErrPage {
			t.Errorf("half: %s: %d", name, err)
		}
	}
}

// over lays inner nodes of one kid each down above a page, till it stands so deep.
func over(t *testing.T, p Pages, r api.Ref, deep int) api.Ref {
	t.Helper()
	for range deep - 1 {
		r = lay(t, p, innerOf(api.Kid{Low: "a", Ref: r}))
	}
	return r
}

// P7.7: what stands at each depth: a leaf, an inner node without kids, no page at all. What is too deep is not read.
func TestDepths(t *testing.T) {
	h := NewHeap()
	leaf, kidless := lay(t, h, leafOf("ab")), lay(t, h, api.Node{})
	stray := lay(t, h, api.Node{Entries: letters("ab")})
	for deep := 1; deep <= 12; deep++ {
		name := "b"
		if deep <= api.MaxLevel {
			refuse(t, h, over(t, h, leaf, deep), name, api.OK)
			refuse(t, h, over(t, h, nowhere, deep), name, api.ErrPage, every...)
		} else {
			refuse(t, h, over(t, h, leaf, deep), name, api.ErrTree, every...)
			refuse(t, h, over(t, h, nowhere, deep), name, api.ErrTree, every...)
		}
		refuse(t, h, over(t, h, kidless, deep), name, api.ErrTree, every...)
		refuse(t, h, over(t, h, stray, deep), name, api.ErrTree, every...)
	}
	for what, c := range calls("b") {
		f := &failing{store: h, read: api.MaxLevel + 1, err: api.ErrPower}
		if err, bare := c(f, over(t, h, leaf, 9)); err != api.ErrTree || !bare || f.read != 1 {
			t.Errorf("%s: %d; it read %d pages", what, err, api.MaxLevel+1-f.read)
		}
	}
}

// P7.7: what leads round in a ring is too deep.
func TestRings(t *testing.T) {
	h := NewHeap()
	self := lay(t, h, innerOf(kid("a", 0), kid("b", 0), kid("c", 0)))
	refuse(t, h, self, "b", api.ErrTree, every...)
	lay(t, h, innerOf(kid("a", 2), kid("b", 2)))
	lay(t, h, innerOf(kid("a", 1), kid("b", 1)))
	refuse(t, h, ref(1), "b", api.ErrTree, every...)
}

// P7.7: of several that are wrong the first one that is met; what is not met does not matter.
func TestFirstThatIsMet(t *testing.T) {
	h := NewHeap()
	whole, kidless := lay(t, h, leafOf("abc")), lay(t, h, api.Node{})
	deep := over(t, h, kidless, 4)
	at := func(low string, r api.Ref) api.Kid { return api.Kid{Low: low, Ref: r} }
	rooted := func(l ...api.Kid) api.Ref { return lay(t, h, innerOf(l...)) }
	right := lay(t, h, leafOf("xyz"))
	for _, x := range []struct {
		root api.Ref
		want api.Errno
	}{
		{rooted(at("a", whole), at("k", nowhere), at("m", kidless), at("x", right)), api.ErrPage},
		{rooted(at("a", whole), at("k", kidless), at("m", nowhere), at("x", right)), api.ErrTree},
		{rooted(at("a", whole), at("k", deep), at("m", nowhere), at("x", right)), api.ErrTree},
		{rooted(at("a", whole), at("k", nowhere), at("m", deep), at("x", right)), api.ErrPage},
		{rooted(at("a", whole), at("k", over(t, h, nowhere, 8)), at("m", nowhere), at("x", right)), api.ErrTree},
	} {
		refuse(t, h, x.root, "b", x.want, "Move", "All")
		refuse(t, h, x.root, "y", x.want, "Move", "All")
		refuse(t, h, x.root, "k", x.want, every...)
	}
}

// P7.7: a neighbour that is needed must be read; nothing has been laid down then, nor in the levels below.
func TestNeighboursThatCantBeRead(t *testing.T) {
	h := NewHeap()
	few, enough, kidless := lay(t, h, leafOf("xy")), lay(t, h, leafOf("xyz")), lay(t, h, api.Node{})
	for bad, want := range map[api.Ref]api.Errno{nowhere: api.ErrPage, kidless: api.ErrTree} {
		left := func(x api.Ref) api.Node { return innerOf(api.Kid{Low: "a", Ref: bad}, api.Kid{Low: "x", Ref: x}) }
		right := func(x api.Ref) api.Node { return innerOf(api.Kid{Low: "x", Ref: x}, api.Kid{Low: "z", Ref: bad}) }
		refuse(t, h, lay(t, h, left(few)), "y", want, "Delete", "Move", "All")
		refuse(t, h, lay(t, h, left(enough)), "y", want, "Move", "All")
		refuse(t, h, lay(t, h, right(few)), "y", want, "Delete", "Move", "All")
		refuse(t, h, lay(t, h, right(enough)), "y", want, "Move", "All")
		refuse(t, h, lay(t, h, right(few)), "u", want, "Move", "All")

		pair := lay(t, h, innerOf(api.Kid{Low: "v", Ref: lay(t, h, leafOf("v"))}, api.Kid{Low: "x", Ref: few}))
		refuse(t, h, lay(t, h, left(pair)), "y", want, "Delete", "Move", "All")
		refuse(t, h, lay(t, h, right(pair)), "y", want, "Delete", "Move", "All")
	}
}

// full lays a tree of so many levels down, whose leftmost nodes have so many parts, the others MinFan.
func full(t *testing.T, h *Heap, levels, parts int) api.Ref {
	t.Helper()
	next := 'b'
	var grow func(level, parts int) api.Kid
	grow = func(level, parts int) api.Kid {
		var n api.Node
		for i := range parts {
			if level == 1 {
				n.Leaf, n.Entries = true, append(n.Entries, plain(string(next)))
				next++
				continue
			}
			below := 2
			if i == 0 {
				below = parts
			}
			n.Kids = append(n.Kids, grow(level-1, below))
		}
		r := lay(t, h, n)
		if level == 1 {
			return api.Kid{Low: n.Entries[0].Name, Ref: r}
		}
		return api.Kid{Low: n.Kids[0].Low, Ref: r}
	}
	r := grow(levels, parts).Ref
	if mayBe(t, h, r) != levels {
		t.Fatalf("no tree of %d levels", levels)
	}
	return r
}

// P7.3, P7.7, P7.8: a tree of MaxLevel levels gets none more: such a Put is refused, and lays nothing down; all else is as ever.
func TestHighestTree(t *testing.T) {
	h := NewHeap()
	lower := full(t, h, api.MaxLevel-1, 4)
	if r := put(t, h, lower, plain("a")); mayBe(t, h, r) != api.MaxLevel {
		t.Errorf("it did not grow to %d levels", api.MaxLevel)
	}
	root := full(t, h, api.MaxLevel, 4)
	secrets, pages := found(t, h, root), h.Len()
	for _, name := range []string{"", "a", "b\x00"} {
		if r, err := Put(h, root, plain(name)); err != api.ErrTree || r != (api.Ref{}) || h.Len() != pages {
			t.Errorf("Put %q: %v, %d, %d pages more", name, r, err, h.Len()-pages)
		}
	}
	if l := found(t, h, root); !slices.EqualFunc(l, secrets, sameEntry) {
		t.Errorf("the tree was changed")
	}
	over := secret("b", ver(7, "x", "n"))
	for _, e := range []api.Entry{over, plain(secrets[len(secrets)-1].Name + "x"), plain(secrets[5].Name + "x")} {
		r := put(t, h, root, e)
		if got, there, err := Get(h, r, e.Name); mayBe(t, h, r) != api.MaxLevel || err != api.OK || !there || !sameEntry(got, e) {
			t.Errorf("Put %q: %v, %v, %d", e.Name, got, there, err)
		}
	}
	mayBe(t, h, put(t, h, drop(t, h, root, "b"), plain("a")))
	last := secrets[len(secrets)-1].Name
	if r := put(t, h, root, plain(last+"x"), plain(last+"y"), plain(last+"z")); mayBe(t, h, r) != api.MaxLevel {
		t.Errorf("a leaf of it was not split")
	}
}

// P7.4, P7.8: a tree of MaxLevel levels shrinks as any other does, from either end.
func TestHighestTreeShrinks(t *testing.T) {
	for _, turned := range []bool{false, true} {
		h := NewHeap()
		root := full(t, h, api.MaxLevel, 2)
		secrets := found(t, h, root)
		if turned {
			slices.Reverse(secrets)
		}
		for _, e := range secrets {
			pages := h.Len()
			root = drop(t, h, root, e.Name)
			if h.Len() > pages+2*api.MaxLevel {
				t.Fatalf("Delete laid %d pages down", h.Len()-pages)
			}
			mayBe(t, h, root)
		}
		if n, _ := h.Read(root); !same(n, leafOf("")) {
			t.Errorf("what is left: %v", n)
		}
	}
}

// P7.7: neighbours of another kind, as no tree that may be has them: no secret is lost.
func TestNeighboursOfAnotherKind(t *testing.T) {
	h := NewHeap()
	leaf := api.Kid{Low: "m", Ref: lay(t, h, leafOf("mn"))}
	inner := func(names string) api.Kid {
		return api.Kid{Low: names[:1], Ref: lay(t, h, innerOf(api.Kid{Low: names[:1], Ref: lay(t, h, leafOf(names))}))}
	}
	for _, kids := range [][]api.Kid{{inner("ab"), leaf}, {leaf, inner("xy")}} {
		root := lay(t, h, innerOf(kids...))
		for _, e := range found(t, h, root) {
			want := slices.DeleteFunc(found(t, h, root), func(other api.Entry) bool { return other.Name == e.Name })
			if l := found(t, h, drop(t, h, root, e.Name)); !slices.EqualFunc(l, want, sameEntry) {
				t.Errorf("without %s: %v, want %v", e.Name, l, want)
			}
		}
	}
}

// P7.7: of any pages each call ends, and none panics; its error is that of the first page that is met.
func TestAnyPages(t *testing.T) {
	d := dice(1)
	for range 400 {
		p := wild(&d)
		root := ref(d.below(len(p.pages)))
		name := string(rune('a' + d.below(6)))
		all, way := firstMet(p, root, 1, nil), firstMet(p, root, 1, &name)
		for what, c := range calls(name) {
			pages := len(p.pages)
			err, bare := c(p, root)
			want := way
			if what == "All" || what == "Move" {
				want = all
			}
			// Delete may meet a neighbour beside the way.
			if err != want && (what != "Delete" || want != api.OK) || err != api.OK && (!bare || len(p.pages) != pages) {
				t.Fatalf("%s %q of %v in %v: %d, want %d", what, name, root, p.pages[:pages], err, want)
			}
		}
		if _, err := Put(p, root, plain(name)); err != way {
			t.Fatalf("Put: %d, want %d", err, way)
		}
	}
}

// wild are pages that lead anywhere, with any parts.
func wild(d *dice) *kept {
	p := &kept{}
	for range 12 {
		n := api.Node{Leaf: d.below(2) == 0}
		for range d.below(7) - d.below(2)*4 {
			n.Entries = append(n.Entries, plain(string(rune('a'+d.below(6)))))
		}
		for range d.below(4) {
			to := api.Kid{Low: string(rune('a' + d.below(6))), Ref: nowhere}
			if page := d.below(13); page < 12 {
				to.Ref = ref(page)
			}
			n.Kids = append(n.Kids, to)
		}
		p.pages = append(p.pages, n)
	}
	return p
}

// firstMet is the error of the first page that is met: of all pages, or of those on the way to a name.
func firstMet(p *kept, r api.Ref, deep int, name *string) api.Errno {
	if deep > 8 {
		return api.ErrTree
	}
	n, err := p.Read(r)
	if err != api.OK || n.Leaf {
		return err
	}
	if len(n.Kids) == 0 {
		return api.ErrTree
	}
	at := 0
	for i, k := range n.Kids {
		if name != nil && k.Low <= *name {
			at = i
		}
		if name == nil {
			if err := firstMet(p, k.Ref, deep+1, nil); err != api.OK {
				return err
			}
		}
	}
	if name == nil {
		return api.OK
	}
	return firstMet(p, n.Kids[at].Ref, deep+1, name)
}
