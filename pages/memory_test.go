package pages

import (
	"math"
	"slices"
	"testing"

	"lethe/api"
)

// roomy are the right nodes with spare room behind all their lists.
func roomy() []api.Node {
	l := right()
	for i, n := range l {
		l[i].Entries = slices.Grow(n.Entries, 2)
		l[i].Kids = slices.Grow(n.Kids, 2)
		for k, e := range n.Entries {
			l[i].Entries[k].Versions = slices.Grow(e.Versions, 2)
		}
	}
	return l
}

// places are all places of all lists of a node, those of the spare room too.
func places(n api.Node) []any {
	var l []any
	entries := n.Entries[:cap(n.Entries)]
	for i := range entries {
		l = append(l, &entries[i])
		versions := entries[i].Versions[:cap(entries[i].Versions)]
		for k := range versions {
			l = append(l, &versions[k])
		}
	}
	kids := n.Kids[:cap(n.Kids)]
	for i := range kids {
		l = append(l, &kids[i])
	}
	return l
}

// shared tells whether a place stands in two of the nodes, or twice in one.
func shared(nodes ...api.Node) bool {
	seen := map[any]bool{}
	for _, n := range nodes {
		for _, p := range places(n) {
			if seen[p] {
				return true
			}
			seen[p] = true
		}
	}
	return false
}

// spoil writes over all lists of a node, and over the spare room behind them.
func spoil(n api.Node) {
	for _, p := range places(n) {
		switch x := p.(type) {
		case *api.Version:
			*x = api.Version{No: 99, Value: "spoilt", Note: "spoilt"}
		case *api.Entry:
			x.Name = "spoilt"
		case *api.Kid:
			*x = api.Kid{Low: "spoilt"}
		}
	}
}

// R4: what is written over what was handed in, or was answered, does not show: neither from the cache nor from the log.
func TestMemoryOfItsOwn(t *testing.T) {
	for i, n := range roomy() {
		want := right()[i]
		p := some(t, example, 1, 7)
		r := lay(t, p, n)
		if !same(n, want) || len(places(n)) != len(places(roomy()[i])) {
			t.Errorf("node %d was changed", i)
		}
		first, _ := p.Read(r)
		second, _ := p.Read(r)
		p.Wipe()
		third, _ := p.Read(r)
		fourth, _ := p.Read(r)
		if shared(n, first, second, third, fourth, p.Holds()[0].Node) {
			t.Errorf("node %d: memory is shared", i)
		}
		spoil(n)
		spoil(first)
		spoil(third)
		if !same(second, want) || !same(fourth, want) {
			t.Errorf("node %d: an answer was changed", i)
		}
		reads(t, p, r, want)
		p.Wipe()
		reads(t, p, r, want)
	}
}

// R4: two lists of a node that are one and the same are two, when they are answered.
func TestListsThatWereShared(t *testing.T) {
	versions := []api.Version{{No: 1, Value: "x"}}
	n := leaf(secret("a", versions...), secret("b", versions...))
	p := some(t, example, 1, 7)
	r := lay(t, p, n)
	for range 2 {
		got, err := p.Read(r)
		if err != api.OK || !same(got, n) || shared(got) {
			t.Errorf("%v, %d", got, err)
		}
		p.Wipe()
	}
}

// R4: the lists that Tree and Pieces answer are new ones.
func TestListsOfAnswers(t *testing.T) {
	p, root, want := grown(t)
	first, _ := p.Tree(root)
	second, _ := p.Tree(root)
	for i := range first[:cap(first)] {
		first[:cap(first)][i] = at(9, 9, 9)
	}
	if !slices.Equal(second, want) {
		t.Errorf("%v, want %v", second, want)
	}
	trees(t, p, root, want...)
	pieces, again := p.Pieces(), p.Pieces()
	was := slices.Clone(again)
	for i := range pieces[:cap(pieces)] {
		pieces[:cap(pieces)][i] = "spoilt"
	}
	if !slices.Equal(again, was) || !slices.Equal(p.Pieces(), was) || len(was) == 0 {
		t.Errorf("%q, want %q", again, was)
	}
}

// R5: empty lists are written as none.
func TestEmptyLists(t *testing.T) {
	p := some(t, example, 1, 7, 8)
	r := ref(7, 0, 0, 6)
	writes(t, p, api.Node{Leaf: true, Entries: []api.Entry{}, Kids: []api.Kid{}}, r)
	reads(t, p, r, leaf())
	p.Wipe()
	reads(t, p, r, leaf())
	n := right()[4]
	n.Entries = []api.Entry{}
	r = lay(t, p, n)
	reads(t, p, r, right()[4])
	if d, err := New(example, p.Log, p.Cache, newDice(t, []uint64{}...)); d == nil || err != api.OK {
		t.Errorf("dice of an empty list: %d", err)
	}
}

// R1: no call panics, and each ends, at arguments of all kinds.
func TestAllArguments(t *testing.T) {
	words := []int{math.MinInt, -1 << 32, -1, 0, 1, 6, 7, 1 << 20, 1<<27 + 1, 1 << 32, math.MaxInt}
	p := some(t, example, 2, 7)
	lay(t, p, leaf())
	for _, seg := range words {
		for _, off := range words {
			for _, n := range words {
				for _, key := range []uint64{0, 7, math.MaxUint64} {
					r := ref(key, seg, off, n)
					if r == ref(7, 0, 0, 6) {
						continue
					}
					if got, err := p.Read(r); err == api.OK || !same(got, api.Node{}) {
						t.Errorf("Read(%v): %v, %d", r, got, err)
					}
					if l, err := p.Tree(r); err == api.OK || len(l) > 0 {
						t.Errorf("Tree(%v): %v, %d", r, l, err)
					}
				}
			}
		}
	}
	rejects(t, p, leaf(of(long(1<<20), long(1<<20))), api.ErrTooBig)
	rejects(t, p, leaf(make([]api.Entry, 1<<18)...), api.ErrNode)
	rejects(t, p, leaf(secret("a", make([]api.Version, 1<<18)...)), api.ErrEntry)
	p.Put(ref(1, 1, 1, 1), leaf(secret("a", make([]api.Version, 1<<18)...)))
	if l := p.Pieces(); !slices.Equal(l, []string{piece(7, leaf())}) {
		t.Errorf("Pieces: %q", l)
	}
}
