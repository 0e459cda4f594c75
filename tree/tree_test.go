package tree

import (
	"slices"
	"strings"
	"testing"

	"lethe/api"
)

// stores are a heap, and pages that show what is changed in them.
func stores() map[string]store {
	return map[string]store{"a heap": NewHeap(), "pages as they are": &kept{}}
}

// many are names of up to three bytes, also of the least and the greatest ones, and the empty name.
func many() []string {
	l := []string{""}
	for _, a := range []string{"\x00", "a", "b", "m", "\x7f", "\x80", "\xff"} {
		l = append(l, a)
		for _, b := range []string{"\x00", "a", "z", "\xff"} {
			l = append(l, a+b)
		}
	}
	return append(l, strings.Repeat("m", 16), strings.Repeat("\xff", 300))
}

// P7.2 to P7.5: the chapter's table, page by page.
func TestExamples(t *testing.T) {
	h := NewHeap()
	root := empty(t, h)
	expect(t, h, 0, leafOf(""))
	root4 := put(t, h, root, letters("abcd")...)
	expect(t, h, 1, leafOf("a"), leafOf("ab"), leafOf("abc"), leafOf("abcd"))
	root7 := put(t, h, root4, plain("e"))
	expect(t, h, 5, leafOf("abc"), leafOf("de"), innerOf(kid("a", 5), kid("d", 6)))
	root11 := put(t, h, root7, letters("fg")...)
	expect(t, h, 8, leafOf("def"), innerOf(kid("a", 5), kid("d", 8)), leafOf("defg"), innerOf(kid("a", 5), kid("d", 10)))
	root13 := drop(t, h, root11, "a")
	expect(t, h, 12, leafOf("bc"), innerOf(kid("b", 12), kid("d", 10)))
	root16 := drop(t, h, root13, "b")
	expect(t, h, 14, leafOf("cde"), leafOf("fg"), innerOf(kid("c", 14), kid("f", 15)))
	root20 := drop(t, h, root16, "f", "d")
	expect(t, h, 17, leafOf("cd"), leafOf("eg"), innerOf(kid("c", 17), kid("e", 18)), leafOf("ceg"))
	for i, r := range map[int]api.Ref{0: root, 4: root4, 7: root7, 11: root11, 13: root13, 16: root16, 20: root20} {
		if r != ref(i) {
			t.Errorf("the root %d: %v", i, r)
		}
	}
	if r, n, err := Move(h, root16, 3); err != api.OK || n != 3 || r != ref(23) {
		t.Errorf("Move: %v, %d, %d", r, n, err)
	}
	expect(t, h, 21, leafOf("cde"), leafOf("fg"), innerOf(kid("c", 21), kid("f", 22)))
	if r, there, err := Delete(h, root20, "x"); err != api.OK || there || r != root20 || h.Len() != 24 {
		t.Errorf("Delete of none: %v, %v, %d", r, there, err)
	}
	if e, there, err := Get(h, root4, "a"); err != api.OK || !there || !sameEntry(e, plain("a")) {
		t.Errorf("Get: %v, %v, %d", e, there, err)
	}
	if e, there, err := Get(h, nowhere, "a"); err != api.ErrPage || there || !sameEntry(e, api.Entry{}) {
		t.Errorf("Get of no page: %v, %v, %d", e, there, err)
	}
}

// P7.2: each Empty lays a leaf of its own down, and in it there is nothing.
func TestEmpty(t *testing.T) {
	h := NewHeap()
	for i := range 3 {
		r := empty(t, h)
		if r != ref(i) {
			t.Errorf("Empty: %v", r)
		}
		for _, name := range many() {
			if e, there, err := Get(h, r, name); err != api.OK || there || !sameEntry(e, api.Entry{}) {
				t.Errorf("Get %q: %v, %v, %d", name, e, there, err)
			}
			if got, there, err := Delete(h, r, name); err != api.OK || there || got != r {
				t.Errorf("Delete %q: %v, %v, %d", name, got, there, err)
			}
		}
		if seen, err := All(h, r); err != api.OK || len(seen) != 1 || !sameSeen(seen[0], api.Seen{Deep: 1, Ref: r, Node: leafOf("")}) {
			t.Errorf("All: %v, %d", seen, err)
		}
	}
	expect(t, h, 0, leafOf(""), leafOf(""), leafOf(""))
}

// P7.2, P7.3: secrets of any kind, in the place of the one of the same name too, and all of each.
func TestPutOverAnother(t *testing.T) {
	for name, p := range stores() {
		w := walk(t, p, many())
		for _, l := range [][]api.Version{{ver(1, "x", "n")}, nil, {ver(-9, "", ""), ver(-9, "y", "m"), ver(1<<62, "", "z")}, {}} {
			for _, e := range letters("dbacfegihj") {
				w.put(secret(e.Name, l...))
				w.look()
			}
		}
		w.end()
		if n := len(found(t, p, w.root)); n != 10 {
			t.Errorf("%s: %d secrets", name, n)
		}
	}
}

// P7.3, P7.4, P7.8: six names put in all orders, taken out in some of them.
func TestAllOrders(t *testing.T) {
	orders := permutations("abcdef")
	for i, order := range orders {
		w := walk(t, &kept{}, []string{"", "a", "aa", "b", "c", "d", "e", "f", "g"})
		for _, e := range letters(order) {
			w.put(e)
		}
		w.look()
		for _, e := range letters(orders[i*91%len(orders)]) {
			w.drop(e.Name)
			w.look()
		}
		if !same(w.x.node(), leafOf("")) {
			t.Fatalf("%s: what is left: %v", order, w.x.node())
		}
		w.end()
	}
}

func permutations(s string) []string {
	if s == "" {
		return []string{""}
	}
	var all []string
	for i := range len(s) {
		for _, rest := range permutations(s[:i] + s[i+1:]) {
			all = append(all, s[i:i+1]+rest)
		}
	}
	return all
}

// P7.2 to P7.6, P7.8, P7.9: long rows of calls, each held against the model; each case of the chapter comes up.
func TestLongRows(t *testing.T) {
	cases := map[string]int{}
	for _, p := range stores() {
		for seed := range dice(12) {
			d := seed
			w := walk(t, p, many())
			for i := range 400 {
				// The tree grows, shrinks, and grows again.
				grows := i/90%2 == 0
				e := secret(w.names[d.below(len(w.names))], ver(i+1, "x", "n"))
				switch {
				case d.below(12) == 0:
					w.move(d.below(1+p.Len()/4), p.Len()/4, d.below(1+p.Len()/4))
				case grows == (d.below(5) > 0):
					w.put(e)
				default:
					w.drop(e.Name)
				}
				if i%7 == 0 {
					w.look()
				}
			}
			w.end()
			for what, n := range w.cases {
				cases[what] += n
			}
		}
	}
	for _, what := range []string{
		"split", "split, inner", "a new root, inner", "as many pages as a Put may",
		"the right one", "the right one, inner", "the left one", "the left one, inner",
		"three", "three, inner", "four", "four, inner", "five", "five, inner", "a root goes, inner",
	} {
		if cases[what] == 0 {
			t.Errorf("it never came to: %s", what)
		}
	}
}

// P7.3, P7.4: names in rising and in falling order, up to trees of several levels, and down again.
func TestRisingAndFalling(t *testing.T) {
	rising := many()
	slices.Sort(rising)
	falling := slices.Clone(rising)
	slices.Reverse(falling)
	for _, in := range [][]string{rising, falling} {
		for _, out := range [][]string{rising, falling} {
			w := walk(t, NewHeap(), rising)
			for _, name := range in {
				w.put(plain(name))
			}
			if w.x.levels() < 3 {
				t.Fatalf("%d levels", w.x.levels())
			}
			w.look()
			for _, name := range out {
				w.drop(name)
				w.drop(name)
			}
			w.look()
			w.end()
		}
	}
}

// P7.4: what is not there is not taken out: the root stays, and nothing is laid down.
func TestDeleteOfNone(t *testing.T) {
	h := NewHeap()
	root := put(t, h, empty(t, h), letters("bdfhjlnprtv")...)
	pages := h.Len()
	for _, name := range []string{"", "a", "b\x00", "c", "e", "g", "i", "k", "m", "o", "q", "s", "u", "w", "\xff", "B", "bb"} {
		if r, there, err := Delete(h, root, name); err != api.OK || there || r != root || h.Len() != pages {
			t.Errorf("%q: %v, %v, %d, %d pages", name, r, there, err, h.Len())
		}
		if e, there, err := Get(h, root, name); err != api.OK || there || !sameEntry(e, api.Entry{}) {
			t.Errorf("Get %q: %v, %v, %d", name, e, there, err)
		}
	}
}

// P7.5, P7.9: any segments, several, none, those that there are not, and one twice.
func TestMove(t *testing.T) {
	for _, p := range stores() {
		w := walk(t, p, []string{"a", "k", "z"})
		for _, e := range letters("abcdefghijklmnopqrstuvwxyz") {
			w.put(e)
		}
		segs := p.Len() / 4
		for _, none := range [][]int{nil, {}, {-1}, {1 << 40}, {-1, -1, segs + 1, segs + 2}} {
			pages, root := p.Len(), w.root
			w.move(none...)
			if p.Len() != pages || w.root != root {
				t.Errorf("Move %v laid pages down", none)
			}
		}
		for seg := range segs + 1 {
			w.move(seg)
		}
		w.move(p.Len()/4, p.Len()/4-1, p.Len()/4, 0, -3)
		pages, of := p.Len(), len(w.x.all(1))
		var every []int
		for seg := range 1 + p.Len()/4 {
			every = append(every, seg)
		}
		slices.Reverse(every)
		w.move(every...)
		if p.Len() != pages+of {
			t.Errorf("of all %d pages %d moved", of, p.Len()-pages)
		}
		w.look()
		w.end()
	}
}

// P7.5: a tree of one leaf moves, or stays.
func TestMoveOfALeaf(t *testing.T) {
	h := NewHeap()
	root := put(t, h, empty(t, h), letters("ab")...)
	if r, n, err := Move(h, root, 1, 2, 3); err != api.OK || n != 0 || r != root || h.Len() != 3 {
		t.Errorf("it did not stay: %v, %d, %d", r, n, err)
	}
	if r, n, err := Move(h, root, 7, 0); err != api.OK || n != 1 || r != ref(3) {
		t.Errorf("it did not move: %v, %d, %d", r, n, err)
	}
	expect(t, h, 3, leafOf("ab"))
}

// R4: what is handed in is neither changed nor kept, nor the room behind it.
func TestWhatIsHandedIn(t *testing.T) {
	for name, p := range stores() {
		root := put(t, p, empty(t, p), plain("b"), plain("c"))
		// The first one comes among the others, the second one in the place of the first.
		for range 2 {
			room := []api.Version{ver(1, "x", "n"), ver(2, "y", "m"), ver(9, "r", "s")}
			root = put(t, p, root, secret("a", room[:2]...))
			if !slices.Equal(room, []api.Version{ver(1, "x", "n"), ver(2, "y", "m"), ver(9, "r", "s")}) {
				t.Errorf("%s: the versions were changed: %v", name, room)
			}
			clear(room)
			if got, _, _ := Get(p, root, "a"); !sameEntry(got, secret("a", ver(1, "x", "n"), ver(2, "y", "m"))) {
				t.Errorf("%s: the versions were kept: %v", name, got)
			}
		}
		segs := []int{9, 0, 3, 1, 7, 5}
		if _, _, err := Move(p, root, segs[:4]...); err != api.OK || !slices.Equal(segs, []int{9, 0, 3, 1, 7, 5}) {
			t.Errorf("%s: the segments were changed: %v", name, segs)
		}
	}
}

// R4: no two answers share memory, nor two lists of one, nor an answer and the pages.
func TestWhatIsAnswered(t *testing.T) {
	for name, p := range stores() {
		root := put(t, p, empty(t, p), letters("abcdefghijk")...)
		var all [][]any
		for range 2 {
			e, _, _ := Get(p, root, "c")
			seen, _ := All(p, root)
			all = append(all, versionPlaces(e))
			for _, s := range seen {
				all = append(all, places(s.Node))
			}
			for i := range seen[:cap(seen)] {
				all = append(all, []any{&seen[:cap(seen)][i]})
			}
		}
		if k, is := p.(*kept); is {
			for _, n := range k.pages {
				all = append(all, places(n))
			}
		}
		if shared(all...) {
			t.Errorf("%s: memory is shared", name)
		}
	}
}
