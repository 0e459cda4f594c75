package list

import (
	"slices"
	"testing"

	"lethe/api"
	"lethe/tree"
)

// calls are all of the chapter's, each by its error and by whether there is nothing beside it (R2).
func calls() map[string]func(p tree.Pages, root api.Ref) (api.Errno, bool) {
	return map[string]func(p tree.Pages, root api.Ref) (api.Errno, bool){
		"Names": func(p tree.Pages, root api.Ref) (api.Errno, bool) {
			l, err := Names(p, root)
			return err, len(l) == 0
		},
		"Names of a prefix": func(p tree.Pages, root api.Ref) (api.Errno, bool) {
			l, err := Names(p, root, "a")
			return err, len(l) == 0
		},
		"Range": func(p tree.Pages, root api.Ref) (api.Errno, bool) {
			l, err := Range(p, root, "", "b")
			return err, len(l) == 0
		},
		"Range without an end": func(p tree.Pages, root api.Ref) (api.Errno, bool) {
			l, err := Range(p, root, "", "")
			return err, len(l) == 0
		},
		"Range of none": func(p tree.Pages, root api.Ref) (api.Errno, bool) {
			l, err := Range(p, root, "b", "a")
			return err, len(l) == 0
		},
		"Count": func(p tree.Pages, root api.Ref) (api.Errno, bool) {
			n, err := Count(p, root)
			return err, n == 0
		},
		"Nth": func(p tree.Pages, root api.Ref) (api.Errno, bool) {
			e, there, err := Nth(p, root, 0)
			return err, !there && sameSecret(e, api.Entry{})
		},
		"Nth of no place": func(p tree.Pages, root api.Ref) (api.Errno, bool) {
			e, there, err := Nth(p, root, -1)
			return err, !there && sameSecret(e, api.Entry{})
		},
		"Floor": func(p tree.Pages, root api.Ref) (api.Errno, bool) {
			e, there, err := Floor(p, root, "aa")
			return err, !there && sameSecret(e, api.Entry{})
		},
		"Floor of none": func(p tree.Pages, root api.Ref) (api.Errno, bool) {
			e, there, err := Floor(p, root, "")
			return err, !there && sameSecret(e, api.Entry{})
		},
		"Shape": func(p tree.Pages, root api.Ref) (api.Errno, bool) {
			shape, err := Shape(q, p, root)
			return err, shape == api.Shape{}
		},
	}
}

// refuse looks whether all calls answer tree.All's error, which is this one, and nothing beside it.
func refuse(t *testing.T, what string, p func() tree.Pages, root api.Ref, want api.Errno) {
	t.Helper()
	if _, err := tree.All(p(), root); err != want {
		t.Fatalf("%s: All: %d, want %d", what, err, want)
	}
	for name, call := range calls() {
		if err, nothing := call(p(), root); err != want || !nothing {
			t.Errorf("%s: %s: %d, nothing %v, want %d", what, name, err, nothing, want)
		}
	}
}

// as is pages as they are.
func as(p tree.Pages) func() tree.Pages { return func() tree.Pages { return p } }

// P8.3: whichever page can't be read, also one that the answer doesn't hang on.
func TestPagesThatCannotBeRead(t *testing.T) {
	h := tree.NewHeap()
	root := made(t, h, counted(30)...)
	seen, err := tree.All(h, root)
	if err != api.OK || seen[len(seen)-1].Deep < 3 {
		t.Fatalf("All: %d pages, %d", len(seen), err)
	}
	for i := range seen {
		for _, want := range []api.Errno{api.ErrPage, api.ErrDamage, api.ErrTree, -7} {
			refuse(t, "a page that can't be read", func() tree.Pages { return &failing{h, i + 1, want} }, root, want)
		}
	}
	refuse(t, "a root of no page", as(h), heapRef(h.Len()), api.ErrPage)
	refuse(t, "a root of nothing", as(h), api.Ref{}, api.ErrPage)
	refuse(t, "no pages", as(nil), root, api.ErrPage)
	refuse(t, "a heap that is none", as((*tree.Heap)(nil)), root, api.ErrPage)
	refuse(t, "pages that panic", as(broken{}), root, api.ErrPage)
}

// P8.3: trees that All answers with ErrTree.
func TestTreesThatMayNotBe(t *testing.T) {
	s := newShelf()
	r := s.lay(leaf("a", "b"), 1)
	for range api.MaxLevel - 1 {
		r = s.lay(inner(kid("a", r)), 1)
	}
	if n, err := Count(s, r); err != api.OK || n != 2 {
		t.Errorf("as deep as may be: %d, %d", n, err)
	}
	refuse(t, "too deep", as(s), s.lay(inner(kid("a", r)), 1), api.ErrTree)
	refuse(t, "an inner node without kids", as(s), s.lay(api.Node{}, 1), api.ErrTree)
	without := kid("c", s.lay(api.Node{Entries: secretsOf("c", "d")}, 1))
	refuse(t, "one below", as(s), s.lay(inner(kid("a", s.lay(leaf("a", "b"), 1)), without), 1), api.ErrTree)
	round := api.Ref{Key: 1, Len: 1}
	s.pages[round] = inner(kid("a", round), kid("b", round), kid("c", round), kid("d", round))
	refuse(t, "a ring", as(s), round, api.ErrTree)
}

// R4: what is handed in is not changed, what comes out is of its own memory, spare room too.
func TestNothingIsShared(t *testing.T) {
	s := newShelf()
	names := counted(16)
	root := grouped(s, 4, names)
	for r, n := range s.pages {
		// Spare room behind each list, of which nothing may come out.
		n.Entries = append(make([]api.Entry, 0, 9), n.Entries...)
		n.Kids = append(make([]api.Kid, 0, 9), n.Kids...)
		s.pages[r] = n
	}
	lists := func() [][]api.Entry {
		all, err := Range(s, root, "", "")
		some, errSome := Range(s, root, "ab", "ah")
		e, there, errNth := Nth(s, root, 3)
		f, is, errFloor := Floor(s, root, "ad")
		if err != api.OK || errSome != api.OK || errNth != api.OK || errFloor != api.OK || !there || !is {
			t.Fatalf("%d, %d, %v, %d, %v, %d", err, errSome, there, errNth, is, errFloor)
		}
		return [][]api.Entry{all, some, {e}, {f}}
	}
	var seen [][]any
	for _, n := range s.pages {
		seen = append(seen, places(n.Entries))
	}
	first, next := lists(), lists()
	for _, l := range slices.Concat(first, next) {
		seen = append(seen, places(l))
	}
	if shared(seen...) {
		t.Error("memory is shared")
	}
	for _, l := range first {
		spoil(l)
	}
	want := [][]string{names, names[1:7], names[3:4], names[3:4]}
	for i, l := range slices.Concat(next, lists()) {
		if !sameSecrets(l, secretsOf(want[i%4]...)) {
			t.Errorf("behind spoiling: %v, want %q", l, want[i%4])
		}
	}
}

// R4: prefixes are neither changed nor kept, nor the spare room behind them, and names are new each time.
func TestPrefixesStayAsTheyAre(t *testing.T) {
	h := tree.NewHeap()
	root := made(t, h, counted(40)...)
	prefixes := []string{"c", "a", "ab", "a", "spare", "room"}
	want := append(counted(16), counted(40)[32:]...)
	first, err := Names(h, root, prefixes[:4]...)
	if err != api.OK || !slices.Equal(first, want) {
		t.Fatalf("%q, %d", first, err)
	}
	if !slices.Equal(prefixes, []string{"c", "a", "ab", "a", "spare", "room"}) {
		t.Errorf("prefixes: %q", prefixes)
	}
	clear(first[:cap(first)])
	clear(prefixes[:2])
	namesAre(t, h, root, want, "c", "a")
}

// R5: no prefixes are none, nil or not.
func TestNoPrefixes(t *testing.T) {
	h := tree.NewHeap()
	root := made(t, h, counted(5)...)
	namesAre(t, h, root, counted(5), nil...)
	namesAre(t, h, root, counted(5), []string{}...)
	namesAre(t, h, root, counted(5), make([]string, 0, 3)...)
}

// R6: the same once more; nothing is laid down.
func TestAskingChangesNothing(t *testing.T) {
	s := newShelf()
	root := grouped(s, 2, counted(8))
	for range 3 {
		for name, call := range calls() {
			if err, _ := call(s, root); err != api.OK {
				t.Errorf("%s: %d", name, err)
			}
		}
		namesAre(t, s, root, counted(8))
	}
	if s.wrote != 0 || len(s.pages) != 7 {
		t.Errorf("%d pages were laid down", s.wrote)
	}
}
