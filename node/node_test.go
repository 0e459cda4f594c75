package node

import (
	"math"
	"slices"
	"testing"

	"lethe/api"
)

// P6.1: a reference's numbers at their edges; its key may be any word.
func TestRefRight(t *testing.T) {
	segs := map[int]bool{math.MinInt: false, -1: false, 0: true, 1: true, api.MaxSeg: true, api.MaxSeg + 1: false, 1 << 32: false, math.MaxInt: false}
	offs := map[int]bool{math.MinInt: false, -1: false, 0: true, 1: true, api.MaxOff: true, api.MaxOff + 1: false, 1 << 32: false, math.MaxInt: false}
	lens := map[int]bool{math.MinInt: false, -1: false, 0: false, 1: true, 2: true, api.MaxLen: true, api.MaxLen + 1: false, 1<<32 + 1: false, math.MaxInt: false}
	for seg, a := range segs {
		for off, b := range offs {
			for n, c := range lens {
				for _, key := range keys {
					r := api.Ref{Key: key, Seg: seg, Off: off, Len: n}
					if got := RefRight(r); got != (a && b && c) {
						t.Errorf("%v: %v", r, got)
					}
				}
			}
		}
	}
}

// P6.1: what may be, at the edges too; what may not be, and the first error of several.
func TestRight(t *testing.T) {
	for _, table := range []map[string]judged{fitting(), wrongLeaves(), wrongInners()} {
		for name, x := range table {
			if err := Right(x.q, x.n); err != x.w {
				t.Errorf("%s: %d, want %d", name, err, x.w)
			}
		}
	}
}

// P6.1: as many entries, and as many kids, as may be; none of the other kind.
func TestRightOfAllCounts(t *testing.T) {
	names := []string{"a", "b", "c", "d", "e", "f"}
	for entries := range len(names) + 1 {
		for kids := range len(names) + 1 {
			for _, isLeaf := range []bool{true, false} {
				may := !isLeaf && entries == 0 && kids >= 2 && kids <= 4 || isLeaf && kids == 0 && entries <= 4
				err := Right(example, api.Node{Leaf: isLeaf, Entries: plain(names[:entries]...), Kids: lows(names[:kids]...)})
				if may != (err == api.OK) || !may && err != api.ErrNode {
					t.Errorf("a leaf %v, %d entries, %d kids: %d", isLeaf, entries, kids, err)
				}
			}
		}
	}
}

// P6.1: of all rows of four names only those that rise may be, of secrets and of kids.
func TestRightOfAllOrders(t *testing.T) {
	names := []string{"a", "ab", "b", "\xff"}
	for code := range 256 {
		row := []string{names[code&3], names[code>>2&3], names[code>>4&3], names[code>>6&3]}
		for n := 2; n <= 4; n++ {
			want := api.OK
			for i := range n - 1 {
				if row[i] >= row[i+1] {
					want = api.ErrNode
				}
			}
			if err := Right(example, leafOf(plain(row[:n]...)...)); err != want {
				t.Errorf("secrets %q: %d, want %d", row[:n], err, want)
			}
			if err := Right(example, innerOf(lows(row[:n]...)...)); err != want {
				t.Errorf("kids %q: %d, want %d", row[:n], err, want)
			}
		}
	}
}

// P6.1: each part of a reference that may not be makes a kid that may not be, whichever it is.
func TestRightOfBadReferences(t *testing.T) {
	for name, spoil := range map[string]func(r *api.Ref){
		"a Seg below 0":     func(r *api.Ref) { r.Seg = -1 },
		"a Seg too great":   func(r *api.Ref) { r.Seg = api.MaxSeg + 1 },
		"an Off below 0":    func(r *api.Ref) { r.Off = -1 },
		"an Off too great":  func(r *api.Ref) { r.Off = api.MaxOff + 1 },
		"a Len of 0":        func(r *api.Ref) { r.Len = 0 },
		"a Len below 0":     func(r *api.Ref) { r.Len = math.MinInt },
		"a Len too great":   func(r *api.Ref) { r.Len = api.MaxLen + 1 },
		"nothing in it":     func(r *api.Ref) { *r = api.Ref{} },
		"nothing but a key": func(r *api.Ref) { *r = api.Ref{Key: 7} },
	} {
		for place := range 4 {
			n := innerOf(lows("a", "b", "c", "d")...)
			spoil(&n.Kids[place].Ref)
			if err := Right(example, n); err != api.ErrRef {
				t.Errorf("%s at %d: %d", name, place, err)
			}
		}
	}
}

// P6.1: each part of a quota that may not be is enough, of any node; Term, From, Seal and Open refuse it, too.
func TestQuotasThatMayNotBe(t *testing.T) {
	for name, spoil := range map[string]func(q *api.Quota){
		"Secrets":  func(q *api.Quota) { q.Secrets = 0 },
		"Name":     func(q *api.Quota) { q.Name = 17 },
		"Value":    func(q *api.Quota) { q.Value = -1 },
		"Note":     func(q *api.Quota) { q.Note = 17 },
		"Versions": func(q *api.Quota) { q.Versions = 5 },
		"Batch":    func(q *api.Quota) { q.Batch = 9 },
		"Cache":    func(q *api.Quota) { q.Cache = -1 },
	} {
		q := example
		spoil(&q)
		for _, n := range []api.Node{leafOf(), leafOf(plain("a")...), innerOf(lows("a", "b")...), innerOf(), leafOf(plain("")...)} {
			if err := Right(q, n); err != api.ErrQuota {
				t.Errorf("%s: Right: %d", name, err)
			}
			if got, err := Term(q, n); err != api.ErrQuota || !equal(got, api.Term{}) {
				t.Errorf("%s: Term: %d", name, err)
			}
			if s, err := Seal(q, 7, n); err != api.ErrQuota || s != "" {
				t.Errorf("%s: Seal: %d", name, err)
			}
			refuses(t, name+": From", api.ErrQuota)(From(q, termOf(n)))
		}
		for _, wrong := range []api.Term{{}, number(1), rowOf(number(3))} {
			refuses(t, name+": From of none", api.ErrQuota)(From(q, wrong))
		}
		for _, s := range []string{"", "\x04\x07\x05\x01\x01\x01", "\x04\x07\x05\x01\x01\x03", "\x09", "\x01\x01"} {
			refuses(t, name+": Open", api.ErrQuota)(Open(q, 7, s))
			refuses(t, name+": Open", api.ErrQuota)(Open(q, 8, s))
		}
	}
}

// P6.2: of any node, right or not, what stands first in the lists of its kind.
func TestLow(t *testing.T) {
	for name, x := range map[string]struct {
		n    api.Node
		want string
	}{
		"the zero node":              {api.Node{}, ""},
		"the empty leaf":             {leafOf(), ""},
		"a leaf":                     {leafOf(plain("a", "b")...), "a"},
		"a leaf that falls":          {leafOf(plain("c", "a", "b")...), "c"},
		"a leaf of one without name": {leafOf(plain("", "b")...), ""},
		"a leaf without versions":    {leafOf(secret("x")), "x"},
		"a leaf of many":             {leafOf(plain("g", "f", "e", "d", "c", "b", "a")...), "g"},
		"a leaf with kids alone":     {api.Node{Leaf: true, Kids: lows("a", "b")}, ""},
		"a leaf with both":           {api.Node{Leaf: true, Entries: plain("x"), Kids: lows("a", "b")}, "x"},
		"an inner node":              {innerOf(lows("a", "b")...), "a"},
		"one kid":                    {innerOf(lows("k")...), "k"},
		"kids that fall":             {innerOf(lows("b", "a")...), "b"},
		"a kid without low":          {innerOf(lows("", "a")...), ""},
		"a bad reference":            {innerOf(kid("r", 0, -1, -1, -1)), "r"},
		"many kids, a long low":      {innerOf(lows(long(9999), "b", "c", "d", "e")...), long(9999)},
		"entries alone":              {api.Node{Entries: plain("x")}, ""},
		"an inner node with both":    {api.Node{Entries: plain("x"), Kids: lows("a", "b")}, "a"},
		"empty lists":                {api.Node{Entries: []api.Entry{}, Kids: []api.Kid{}}, ""},
		"any bytes":                  {leafOf(plain("\x00\xff")...), "\x00\xff"},
	} {
		if got := Low(x.n); got != x.want {
			t.Errorf("%s: %q, want %q", name, got, x.want)
		}
	}
}

// R4: what is asked of a node changes nothing in it, nor behind its lists.
func TestNodesStayAsTheyAre(t *testing.T) {
	entries := append(plain("a", "b"), secret("r", ver(9, "s", "t")))
	kids := lows("a", "b", "r")
	for _, n := range []api.Node{leafOf(entries[:2]...), innerOf(kids[:2]...)} {
		term, _ := Term(example, n)
		Right(example, n)
		Low(n)
		Seal(example, 7, n)
		if !equal(term, termOf(n)) {
			t.Errorf("%v was changed", n)
		}
	}
	if !same(leafOf(entries...), leafOf(append(plain("a", "b"), secret("r", ver(9, "s", "t")))...)) || !slices.Equal(kids, lows("a", "b", "r")) {
		t.Errorf("the room behind was changed: %v, %v", entries, kids)
	}
}
