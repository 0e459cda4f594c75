package list

import (
	"math"
	"slices"
	"strings"
	"testing"

	"lethe/api"
	"lethe/quota"
	"lethe/tree"
)

func shapeIs(t *testing.T, what string, q api.Quota, p tree.Pages, root api.Ref, want api.Shape) {
	t.Helper()
	if got, err := Shape(q, p, root); err != api.OK || got != want {
		t.Errorf("%s: %v, %d, want %v", what, got, err, want)
	}
}

func noShape(t *testing.T, what string, q api.Quota, p tree.Pages, root api.Ref, want api.Errno) {
	t.Helper()
	if got, err := Shape(q, p, root); err != want || got != (api.Shape{}) {
		t.Errorf("%s: %v, %d, want %d", what, got, err, want)
	}
}

// P8.4: what is told of trees that are as they must be.
func TestShape(t *testing.T) {
	s := newShelf()
	shapeIs(t, "an empty leaf", q, s, s.lay(leaf(), 11), api.Shape{Levels: 1, Pages: 1, Bytes: 11})
	for n := 1; n <= api.MaxFan; n++ {
		shapeIs(t, "a leaf", q, s, s.lay(leaf(counted(n)...), 7), api.Shape{Levels: 1, Pages: 1, Secrets: n, Bytes: 7})
	}
	x := inner(kid("a", s.lay(leaf("a", "b"), 100)), kid("c", s.lay(leaf("c", "d", "e"), 20)), kid("f", s.lay(leaf("f", "g", "h", "i"), 3)))
	shapeIs(t, "two levels", q, s, s.lay(x, 4000), api.Shape{Levels: 2, Pages: 4, Secrets: 9, Bytes: 4123})
	wide := q
	wide.Secrets = api.MaxSecrets
	for _, x := range []struct {
		fan, n int
		want   api.Shape
	}{
		{2, 4, api.Shape{Levels: 2, Pages: 3, Secrets: 4, Bytes: 3}},
		{2, 8, api.Shape{Levels: 3, Pages: 7, Secrets: 8, Bytes: 7}},
		{2, 64, api.Shape{Levels: 6, Pages: 63, Secrets: 64, Bytes: 63}},
		{3, 27, api.Shape{Levels: 3, Pages: 13, Secrets: 27, Bytes: 13}},
		{4, 64, api.Shape{Levels: 3, Pages: 21, Secrets: 64, Bytes: 21}},
	} {
		shapeIs(t, "of nodes with as many parts", wide, s, grouped(s, x.fan, counted(x.n)), x.want)
	}
	shapeIs(t, "as many as may be", q, s, grouped(s, 2, counted(10)[:8]), api.Shape{Levels: 3, Pages: 7, Secrets: 8, Bytes: 7})
}

// P8.4: the root's reference is what it is, its length too.
func TestAnyRootReference(t *testing.T) {
	s := newShelf()
	for _, r := range []api.Ref{{}, {Len: -5}, {Key: 1, Seg: -1, Off: math.MaxInt, Len: math.MaxInt - 3}, {Len: math.MinInt}} {
		s.pages[r] = leaf("a")
		shapeIs(t, "a root", q, s, r, api.Shape{Levels: 1, Pages: 1, Secrets: 1, Bytes: r.Len})
	}
}

// P8.4: each quota that may not be, ahead of all else.
func TestShapeOfNoQuota(t *testing.T) {
	h := tree.NewHeap()
	root := made(t, h, "a", "b")
	for _, bad := range []api.Quota{
		{}, {Secrets: 65, Name: 8, Versions: 1, Batch: 1}, {Secrets: 0, Name: 8, Versions: 1, Batch: 1},
		{Secrets: 4, Name: 8, Versions: 1, Batch: 1, Cache: 33}, {Secrets: 4, Name: -1, Versions: 1, Batch: 1},
	} {
		noShape(t, "a quota that may not be", bad, h, root, api.ErrQuota)
		noShape(t, "and no page", bad, h, api.Ref{}, api.ErrQuota)
		noShape(t, "and no pages", bad, nil, root, api.ErrQuota)
		noShape(t, "and panics", bad, broken{}, root, api.ErrQuota)
	}
}

// P8.4: what node.Right tells of a page, wherever it stands, and the first one of several.
func TestShapeOfNodesThatMayNotBe(t *testing.T) {
	s := newShelf()
	good := func(names ...string) api.Kid { return kid(names[0], s.lay(leaf(names...), 1)) }
	long := secret("b")
	long.Versions[0].Value = strings.Repeat("x", q.Value+1)
	stray := leaf("c", "d")
	stray.Kids = []api.Kid{good("x", "y")}
	mixed := inner(good("a", "b"), good("c", "d"))
	mixed.Entries = secretsOf("a")
	farther := good("c", "d")
	farther.Ref.Seg = api.MaxSeg + 1
	s.pages[farther.Ref] = leaf("c", "d")
	for _, x := range []struct {
		what string
		root api.Node
		want api.Errno
	}{
		{"a leaf of five", leaf("a", "b", "c", "d", "e"), api.ErrNode},
		{"names that don't rise", leaf("b", "a"), api.ErrNode},
		{"a name twice", inner(good("a", "a"), good("b", "c")), api.ErrNode},
		{"no versions", api.Node{Leaf: true, Entries: []api.Entry{{Name: "a"}}}, api.ErrEntry},
		{"no name", leaf("", "a"), api.ErrName},
		{"a long name", leaf("abcdefghi"), api.ErrTooBig},
		{"a long value", api.Node{Leaf: true, Entries: []api.Entry{secret("a"), long}}, api.ErrTooBig},
		{"one kid", inner(good("a", "b")), api.ErrNode},
		{"five kids", inner(good("a", "b"), good("c", "d"), good("e", "f"), good("g", "h"), good("i", "j")), api.ErrNode},
		{"an inner node with secrets", mixed, api.ErrNode},
		{"a leaf with kids", stray, api.ErrNode},
		{"one below", inner(good("a", "b"), kid("c", s.lay(stray, 1))), api.ErrNode},
		{"an empty Low", inner(kid("", s.lay(leaf("a", "b"), 1)), good("c", "d")), api.ErrName},
		{"a long Low", inner(good("a", "b"), kid("ccccccccc", s.lay(leaf("d", "e"), 1))), api.ErrTooBig},
		{"a reference that may not be", inner(good("a", "b"), farther), api.ErrRef},
		{"Lows that don't rise", inner(good("c", "d"), good("a", "b")), api.ErrNode},
	} {
		noShape(t, x.what, q, s, s.lay(x.root, 1), x.want)
	}
	// The root is told ahead of what is below it, and the left one ahead of the right one.
	entry := kid("c", s.lay(api.Node{Leaf: true, Entries: []api.Entry{{Name: "c"}}}, 1))
	name := kid("e", s.lay(leaf("", "f"), 1))
	noShape(t, "the left one", q, s, s.lay(inner(good("a", "b"), entry, name), 1), api.ErrEntry)
	entry.Low, name.Low = name.Low, entry.Low
	noShape(t, "the left one", q, s, s.lay(inner(good("a", "b"), name, entry), 1), api.ErrName)
	noShape(t, "the root", q, s, s.lay(inner(kid("", entry.Ref), name), 1), api.ErrName)
	deeper := kid("a", s.lay(inner(good("a", "b"), entry), 1))
	noShape(t, "what is below the left one", q, s, s.lay(inner(deeper, name), 1), api.ErrEntry)
	// All's error is told ahead of that of a node, and that of a node ahead of the tree's.
	noShape(t, "no page behind it", q, s, s.lay(inner(entry, kid("x", api.Ref{Len: 1})), 1), api.ErrPage)
	noShape(t, "small leaves ahead of it", q, s, s.lay(inner(good("a"), good("b"), entry), 1), api.ErrEntry)
}

// P8.4: each way in which a tree of right nodes is none that may be.
func TestShapeOfTreesThatMayNotBe(t *testing.T) {
	s := newShelf()
	below := func(low string, names string) api.Kid { return kid(low, s.lay(leaf(letters(names)...), 1)) }
	above := func(low string, kids ...api.Kid) api.Kid { return kid(low, s.lay(inner(kids...), 1)) }
	for _, x := range []struct {
		what string
		kids []api.Kid
	}{
		{"a leaf higher up, the last one", []api.Kid{above("a", below("a", "ab"), below("c", "cd")), below("e", "ef")}},
		{"a leaf higher up, the first one", []api.Kid{below("a", "ab"), above("c", below("c", "cd"), below("e", "ef"))}},
		{"a leaf of one, the first one", []api.Kid{below("a", "a"), below("b", "bc")}},
		{"a leaf of one, the last one", []api.Kid{below("a", "ab"), below("c", "c")}},
		{"a leaf of one farther down", []api.Kid{above("a", below("a", "ab"), below("c", "c")), above("e", below("e", "ef"), below("g", "gh"))}},
		{"a leaf of none", []api.Kid{below("a", "ab"), {Low: "c", Ref: s.lay(leaf(), 1)}}},
		{"a Low that is less", []api.Kid{below("a", "ab"), below("c", "de")}},
		{"the first Low less", []api.Kid{below("A", "ab"), below("c", "cd")}},
		{"a Low that is greater", []api.Kid{below("a", "ab"), below("d", "cd")}},
		{"the first Low greater", []api.Kid{below("b", "ab"), below("c", "cd")}},
		{"a Low between", []api.Kid{below("a", "ab"), below("cc", "cd")}},
		{"the last Low greater", []api.Kid{below("a", "ab"), below("c", "cd"), below("f", "ef")}},
		{"a Low less farther up", []api.Kid{above("a", below("a", "ab"), below("c", "cd")), above("dd", below("e", "ef"), below("g", "gh"))}},
		{"a Low greater farther up", []api.Kid{above("a", below("a", "ab"), below("c", "cd")), above("g", below("e", "ef"), below("g", "gh"))}},
		{"the first Low greater farther up", []api.Kid{above("b", below("a", "ab"), below("c", "cd")), above("e", below("e", "ef"), below("g", "gh"))}},
		{"a Low less farther down", []api.Kid{above("a", below("a", "ab"), below("bb", "cd")), above("e", below("e", "ef"), below("g", "gh"))}},
		{"the last Low farther down", []api.Kid{above("a", below("a", "ab"), below("c", "cd")), above("e", below("e", "ef"), below("h", "gh"))}},
		{"a name in two leaves", []api.Kid{below("a", "ac"), below("c", "cd")}},
		{"names that reach over", []api.Kid{below("a", "ad"), below("c", "ce")}},
		{"names that reach over farther up", []api.Kid{above("a", below("a", "ab"), below("c", "cf")), above("e", below("e", "eg"), below("h", "hi"))}},
		{"a page twice", []api.Kid{below("a", "ab"), {Low: "c", Ref: below("a", "ab").Ref}}},
		{"more than q.Secrets", []api.Kid{below("a", "abcd"), below("e", "efg"), below("h", "hijk")}},
	} {
		noShape(t, x.what, q, s, s.lay(inner(x.kids...), 1), api.ErrTree)
	}
	shapeIs(t, "as many as q.Secrets", q, s, s.lay(inner(below("a", "abcd"), below("e", "efg"), below("h", "hij")), 1), api.Shape{Levels: 2, Pages: 4, Secrets: 10, Bytes: 4})
}

// P8.4: just so many secrets, and just so many levels, as a quota has; a tree higher than that has too many secrets, too.
func TestShapeAtTheQuotasEdges(t *testing.T) {
	for n := 1; n <= api.MaxSecrets; n++ {
		s := newShelf()
		one := q
		one.Secrets = n
		root := made(t, s, counted(n)...)
		if shape, err := Shape(one, s, root); err != api.OK || shape.Secrets != n || shape.Levels > quota.Levels(one) {
			t.Errorf("%d secrets: %v, %d", n, shape, err)
		}
		if one.Secrets--; one.Secrets > 0 {
			noShape(t, "one more", one, s, root, api.ErrTree)
		}
		if levels := quota.Levels(one); levels > 0 {
			noShape(t, "one level more", one, s, grouped(s, 2, counted(1<<(levels+1))), api.ErrTree)
			if half := 1 << levels; half <= one.Secrets {
				shapeIs(t, "as high as may be", one, s, grouped(s, 2, counted(half)), api.Shape{Levels: levels, Pages: half - 1, Secrets: half, Bytes: half - 1})
			}
		}
	}
}

// P8.5: of what Empty, Put and Delete make Shape tells no error, and what there is.
func TestShapeOfTreesThatWereMade(t *testing.T) {
	for _, most := range []int{1, 2, 3, 4, 5, 6, 9, 16, 17, 31, 32, 63, 64} {
		some := api.Quota{Secrets: most, Name: 16, Value: 32, Note: 16, Versions: 4, Batch: 8, Cache: 32}
		d := dice(most)
		h := tree.NewHeap()
		root := made(t, h)
		var there []string
		for i := range 500 {
			grows := i/(2*most)%2 == 0
			name := strings.Repeat(string([]byte{byte(d.below(256)), byte(d.below(256))}), 1+d.below(8))
			at, is := slices.BinarySearch(there, name)
			switch {
			case len(there) > 0 && d.below(4) > 0 != grows:
				at = d.below(len(there))
				root = taken(t, h, root, there[at])
				there = slices.Delete(there, at, at+1)
			case is || len(there) < most:
				root = put(t, h, root, full(name))
				if !is {
					there = slices.Insert(there, at, name)
				}
			}
			seen, err := tree.All(h, root)
			want := api.Shape{Levels: seen[len(seen)-1].Deep, Pages: len(seen), Secrets: len(there), Bytes: len(seen)}
			if err != api.OK {
				t.Fatalf("All: %d", err)
			}
			shapeIs(t, "made", some, h, root, want)
			namesAre(t, h, root, there)
		}
	}
}

// full is a secret of as many and as long versions as may be.
func full(name string) api.Entry {
	e := api.Entry{Name: name}
	for no := range 4 {
		e.Versions = append(e.Versions, api.Version{No: no + 1, Value: strings.Repeat("v", 32), Note: strings.Repeat("n", 16)})
	}
	return e
}

func put(t *testing.T, p tree.Pages, root api.Ref, e api.Entry) api.Ref {
	t.Helper()
	r, err := tree.Put(p, root, e)
	if err != api.OK {
		t.Fatalf("Put: %d", err)
	}
	return r
}

func taken(t *testing.T, p tree.Pages, root api.Ref, name string) api.Ref {
	t.Helper()
	r, there, err := tree.Delete(p, root, name)
	if err != api.OK || !there {
		t.Fatalf("Delete: %v, %d", there, err)
	}
	return r
}
