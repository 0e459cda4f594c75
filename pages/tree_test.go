package pages

import (
	"math/rand/v2"
	"slices"
	"testing"

	"lethe/api"
	"lethe/book"
	"lethe/list"
	"lethe/quota"
	"lethe/thief"
	"lethe/tree"
)

// grown are pages of a tree of three levels, and its root: a page stands below two kids.
func grown(t *testing.T) (*Pages, api.Ref, []api.Place) {
	t.Helper()
	p := some(t, example, 9)
	a, b := lay(t, p, leaf(of("a", "1"), of("aa", "2"))), lay(t, p, leaf(of("b", "3"), of("bb", "4")))
	c := lay(t, p, leaf(of("c", "5"), of("cc", "6")))
	left := lay(t, p, inner(kid("a", a), kid("b", b)))
	right := lay(t, p, inner(kid("c", c), kid("d", b)))
	root := lay(t, p, inner(kid("a", left), kid("c", right)))
	return p, root, []api.Place{placeOf(root), placeOf(left), placeOf(a), placeOf(b), placeOf(right), placeOf(c), placeOf(b)}
}

// P16.4: the places of all pages, the root's first, each ahead of those below it: as often as they are come to.
func TestTree(t *testing.T) {
	p, root, want := grown(t)
	for range 3 {
		trees(t, p, root, want...)
	}
	seen, err := tree.All(p, root)
	if err != api.OK || len(seen) != len(want) {
		t.Fatalf("tree.All: %v, %d", seen, err)
	}
	for i, s := range seen {
		if placeOf(s.Ref) != want[i] {
			t.Errorf("page %d: %v, want %v", i, s.Ref, want[i])
		}
	}
	p.Wipe()
	p.Cut(0)
	trees(t, p, root, want...)
	if p.Kept() != 2 {
		t.Errorf("Kept: %d", p.Kept())
	}
}

// P16.4: the pages are read as by Read: those that are kept are found in the cache, the others are put there.
func TestTreeAndTheCache(t *testing.T) {
	p := made(t, example, newLog(t, 3, 540), newCache(t, 3), newDice(t))
	one, two := leaf(of("a", "1")), leaf(of("b", "2"))
	a, b := lay(t, p, one), lay(t, p, two)
	top := inner(kid("a", a), kid("b", b))
	root := lay(t, p, top)
	p.Drop(a)
	trees(t, p, root, placeOf(root), placeOf(a), placeOf(b))
	hits(t, p, 2, 1)
	keeps(t, p, held(root, top, 0), held(a, one, 0), held(b, two, 0))
	taken, written := p.Taken(), p.Count()
	p.Wipe()
	trees(t, p, root, placeOf(root), placeOf(a), placeOf(b))
	trees(t, p, b, placeOf(b))
	hits(t, p, 3, 4)
	if p.Taken() != taken || p.Count() != written {
		t.Errorf("Taken %d, Count %d", p.Taken(), p.Count())
	}
}

// P16.4: tree.All's error, the first that is met.
func TestTreeThatIsDamaged(t *testing.T) {
	p, root, want := grown(t)
	for i, place := range want {
		if place.Seg != 0 {
			t.Fatalf("page %d lies elsewhere: %v", i, place)
		}
	}
	good := ref(far, 0, 0, want[2].Len)
	for bad, want := range map[api.Ref]api.Errno{
		{Key: far, Seg: 0, Off: 0, Len: good.Len - 1}:       api.ErrDamage,
		{Key: far + 1, Seg: 0, Off: 0, Len: good.Len}:       api.ErrDamage,
		{Key: far, Seg: 9, Off: 0, Len: good.Len}:           api.ErrSeg,
		{Key: far, Seg: 0, Off: 0, Len: 600}:                api.ErrPlace,
		{Key: far, Seg: 8, Off: 0, Len: good.Len}:           api.ErrPlace,
		{Key: far, Seg: 0, Off: 1 << 27, Len: good.Len}:     api.ErrPlace,
		{Key: far, Seg: 1 << 20, Off: 1 << 27, Len: 1 << 8}: api.ErrSeg,
	} {
		noTree(t, p, lay(t, p, inner(kid("a", good), kid("b", bad))), want)
		noTree(t, p, lay(t, p, inner(kid("a", bad), kid("b", good))), want)
		noTree(t, p, lay(t, p, inner(kid("a", lay(t, p, inner(kid("a", good), kid("b", bad)))), kid("b", ref(1, 99, 0, 1)))), want)
	}
	// Nodes that may not be stand in the cache alone.
	for name, x := range map[string]struct {
		n    api.Node
		want api.Errno
	}{
		"no kids":                 {api.Node{}, api.ErrTree},
		"no kids, but secrets":    {api.Node{Entries: []api.Entry{of("a", "")}}, api.ErrTree},
		"a kid's wrong reference": {inner(kid("a", api.Ref{})), api.ErrRef},
		"itself":                  {inner(kid("a", ref(5, 9, 9, 9))), api.ErrTree},
	} {
		p.Wipe()
		p.Put(ref(5, 9, 9, 9), x.n)
		if l, err := p.Tree(ref(5, 9, 9, 9)); len(l) > 0 || err != x.want {
			t.Errorf("%s: %v, %d, want %d", name, l, err, x.want)
		}
	}
	p.Wipe()
	p.Put(ref(5, 9, 9, 9), api.Node{Leaf: true, Kids: []api.Kid{kid("a", api.Ref{})}})
	trees(t, p, ref(5, 9, 9, 9), at(9, 9, 9))
	trees(t, p, root, want...)
}

// P16.4: eight levels may be; a page that stands deeper is not read.
func TestTreeThatIsDeep(t *testing.T) {
	p := some(t, example, 6)
	r := lay(t, p, leaf(of("a", "1")))
	nowhere := ref(1, 5, 0, 6)
	for range 7 {
		r = lay(t, p, inner(kid("a", r), kid("b", r)))
		nowhere = lay(t, p, inner(kid("a", nowhere), kid("b", nowhere)))
	}
	if l, err := p.Tree(r); len(l) != 255 || err != api.OK || l[0] != placeOf(r) {
		t.Errorf("eight levels: %d pages, %d", len(l), err)
	}
	noTree(t, p, nowhere, api.ErrPlace)
	noTree(t, p, lay(t, p, inner(kid("a", r), kid("b", r))), api.ErrTree)
	noTree(t, p, lay(t, p, inner(kid("a", nowhere), kid("b", r))), api.ErrTree)
}

// P16.4: of each node that is kept its key and its term, that first which was used longest ago.
func TestPieces(t *testing.T) {
	p := made(t, example, newLog(t, 3, 540), newCache(t, 32), newDice(t, 7, 300, 1<<63))
	if l := p.Pieces(); len(l) != 0 {
		t.Errorf("of nothing: %q", l)
	}
	var want []string
	var refs []api.Ref
	for _, n := range right() {
		r := lay(t, p, n)
		refs = append(refs, r)
		want = append(want, piece(r.Key, n))
		if l := p.Pieces(); !slices.Equal(l, want) {
			t.Errorf("%q, want %q", l, want)
		}
	}
	// In the order of use, and no more of what went.
	reads(t, p, refs[1], right()[1])
	p.Drop(refs[0])
	want = append(want[2:], want[1])
	for range 2 {
		before := all(p)
		if l := p.Pieces(); !slices.Equal(l, want) {
			t.Errorf("%q, want %q", l, want)
		}
		stays(t, p, before)
	}
	p.Wipe()
	if l := p.Pieces(); len(l) != 0 {
		t.Errorf("wiped: %q", l)
	}
	// What is read comes back, under its own key.
	reads(t, p, refs[2], right()[2])
	if l := p.Pieces(); !slices.Equal(l, []string{piece(1<<63, right()[2])}) {
		t.Errorf("%q", l)
	}
}

// P16.4: a node without a term is passed over, wherever it stands; one that may be is told, whoever put it there.
func TestPiecesOfWrongNodes(t *testing.T) {
	for name, x := range wrong() {
		p := made(t, example, newLog(t, 1, 540), newCache(t, 5), newDice(t, 7))
		p.Put(ref(1, 0, 0, 1), x.node)
		lay(t, p, leaf(of("a", "x")))
		p.Put(api.Ref{}, x.node)
		p.Put(ref(9, -1, -1, -1), leaf(of("b", "")))
		p.Put(ref(2, 0, 0, 1), x.node)
		want := []string{piece(7, leaf(of("a", "x"))), piece(9, leaf(of("b", "")))}
		if l := p.Pieces(); !slices.Equal(l, want) {
			t.Errorf("%s: %q, want %q", name, l, want)
		}
		p.Drop(ref(7, 0, 0, p.Used(0)), ref(9, -1, -1, -1))
		if l := p.Pieces(); len(l) != 0 {
			t.Errorf("%s alone: %q", name, l)
		}
	}
}

// P16.5: what was written is read, whatever the cache keeps; under another key ErrDamage.
func TestWrittenIsRead(t *testing.T) {
	r := rand.New(rand.NewPCG(16, 5))
	for room := range 33 {
		p := made(t, example, newLog(t, 8, 540), newCache(t, room), newDice(t))
		type page struct {
			ref  api.Ref
			node api.Node
		}
		var written []page
		for range 60 {
			n := right()[r.IntN(len(right()))]
			written = append(written, page{lay(t, p, n), n})
			switch r.IntN(8) {
			case 0:
				p.Wipe()
			case 1:
				p.Drop(written[r.IntN(len(written))].ref)
			case 2:
				p.Pin(written[r.IntN(len(written))].ref)
			}
			for range 5 {
				x := written[r.IntN(len(written))]
				reads(t, p, x.ref, x.node)
				x.ref.Key ^= 1 << r.IntN(64)
				fails(t, p, x.ref, api.ErrDamage)
			}
			if p.Kept() > room {
				t.Fatalf("%d are kept, of room %d", p.Kept(), room)
			}
		}
	}
}

// P16.5: under another key, if the cache keeps another page under just that reference, that page.
func TestAnotherPageUnderTheReference(t *testing.T) {
	p := some(t, example, 1, 7)
	lay(t, p, leaf())
	p.Put(ref(8, 0, 0, 6), leaf(of("b", "y")))
	reads(t, p, ref(8, 0, 0, 6), leaf(of("b", "y")))
	p.Wipe()
	fails(t, p, ref(8, 0, 0, 6), api.ErrDamage)
	reads(t, p, ref(7, 0, 0, 6), leaf())
}

// P16.5: no two pages are sealed under one key, if no draw comes twice; their bytes alone tell nothing, with the root's key all of them.
func TestThePast(t *testing.T) {
	p := some(t, greatest, 40, 3, 1, 2)
	root, err := tree.Empty(p)
	for i := range 60 {
		if err != api.OK {
			t.Fatal(err)
		}
		root, err = tree.Put(p, root, of("name"+string(rune('A'+i*7%60)), "value"))
	}
	var pieces []string
	seen := map[string]bool{}
	for raw := range p.Past() {
		pieces = append(pieces, raw.Bytes)
		place := at(raw.Seg, raw.At, len(raw.Bytes))
		key := uint64(len(pieces)-1) + far
		if len(pieces) <= 3 {
			key = []uint64{3, 1, 2}[len(pieces)-1]
		}
		head := "\x04" + sevens(key) + "\x05"
		if raw.Bytes[:len(head)] != head || seen[head] {
			t.Errorf("page %d, %v: not sealed under %d", len(pieces), place, key)
		}
		seen[head] = true
	}
	if len(pieces) != p.Taken() || thief.Shut(pieces...) != len(pieces) {
		t.Errorf("%d pages, %d draws, %d shut", len(pieces), p.Taken(), thief.Shut(pieces...))
	}
	if a, k := thief.Atoms(pieces...), thief.Keys(pieces...); len(a) != 0 || len(k) != 0 {
		t.Errorf("got at: %q, %v", a, k)
	}
	names, err := list.Names(p, root)
	if err != api.OK || len(names) != 60 {
		t.Fatalf("%q, %d", names, err)
	}
	atoms := thief.Atoms(append(pieces, "\x03"+sevens(root.Key))...)
	if want := append([]string{""}, append(names, "value")...); !slices.Equal(atoms, want) {
		t.Errorf("%q, want %q", atoms, want)
	}
	l, err := p.Tree(root)
	if err != api.OK || thief.Shut(append(pieces, "\x03"+sevens(root.Key))...) != len(pieces)-len(l) {
		t.Errorf("%d pages of %d live, %d", len(l), len(pieces), err)
	}
}

// P16.5, and chapter 7: trees on pages are those on any pages: they hold what a book does, while what lives not is written over.
func TestTreesOnPages(t *testing.T) {
	q := api.Quota{Secrets: 64, Name: 1, Value: 2, Versions: 1, Batch: 1}
	r := rand.New(rand.NewPCG(16, 7))
	for _, room := range []int{0, 1, 3, 32} {
		p := made(t, q, newLog(t, quota.Segments(q), quota.SegBytes(q)), newCache(t, room), newDice(t))
		b, err := book.New(q)
		if err != api.OK {
			t.Fatal(err)
		}
		root, err := tree.Empty(p)
		for range 600 {
			if err != api.OK {
				t.Fatal(err)
			}
			name := string(rune('A' + r.IntN(50)))
			op := api.Op{Kind: api.OpOver, Name: name, Value: string(rune('a' + r.IntN(26)))}
			if r.IntN(2) == 0 {
				root, _, err = tree.Delete(p, root, name)
				op = api.Op{Kind: api.OpDelete, Name: name}
			}
			b.Play(op)
			if e, ok := b.Get(name); ok && op.Kind == api.OpOver {
				root, err = tree.Put(p, root, e)
			}
			if err != api.OK {
				t.Fatal(err)
			}
			live, err := p.Tree(root)
			if err != api.OK || p.Settle(live...) != api.OK {
				t.Fatalf("%v, %d", live, err)
			}
			// What fills the log up is moved to free segments.
			if len(p.Free()) <= quota.Reserve(q)/2 {
				root, _, err = tree.Move(p, root, p.Sealed()...)
				if err != api.OK {
					t.Fatal(err)
				}
				live, _ := p.Tree(root)
				p.Settle(live...)
			}
			if l, err := list.Range(p, root, "", ""); err != api.OK || !slices.EqualFunc(l, b.All(), sameEntry) {
				t.Fatalf("%v, %d, want %v", l, err, b.All())
			}
		}
		if p.Count() < 1200 {
			t.Errorf("%d pages alone were written", p.Count())
		}
	}
}
