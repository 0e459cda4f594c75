package term

import (
	"slices"
	"strings"
	"testing"

	"lethe/api"
)

// P2.2: what may be, up to its edges, and what may not, the error that is named first ahead of others.
func TestRight(t *testing.T) {
	for name, x := range allowed() {
		if e := Right(x); e != api.OK {
			t.Errorf("%s: %d", name, e)
		}
	}
	for name, x := range refused() {
		if e := Right(x.t); e != x.e {
			t.Errorf("%s: %d, want %d", name, e, x.e)
		}
	}
}

// P2.2: a list far longer than may be is refused, though it holds itself again and again.
func TestRightEndsWhereTermsHoldThemselves(t *testing.T) {
	l := make([]api.Term, 2)
	l[0], l[1] = rowOf(l...), rowOf(l...)
	if e := Right(rowOf(l...)); e != api.ErrMany {
		t.Errorf("%d", e)
	}
	wide := rowOf()
	for range 40 {
		wide = rowOf(wide, wide)
	}
	if e := Right(wide); e != api.ErrMany {
		t.Errorf("2^40 terms: %d", e)
	}
}

// P2.2: terms are the same if all that they are made of is; an empty list is as none (R5).
func TestSame(t *testing.T) {
	all := allowed()
	for name, a := range all {
		for other, b := range all {
			if got := Same(a, b); got != equal(a, b) {
				t.Errorf("%s and %s: %v", name, other, got)
			}
		}
		if !Same(a, plain(a)) || !Same(plain(a), a) {
			t.Errorf("%s: not the same as its copy", name)
		}
	}
	a := func(s string) api.Term { return api.Term{Kind: api.Atom, Bytes: s} }
	n := func(n uint64) api.Term { return api.Term{Kind: api.Num, Num: n} }
	for _, x := range []struct {
		name string
		a, b api.Term
	}{
		{"numbers", n(1), n(2)},
		{"numbers far apart", n(1), n(1<<32 + 1)},
		{"a number and a key", n(1), api.Term{Kind: api.Key, Num: 1}},
		{"atoms", a("a"), a("b")},
		{"atoms, one the other's beginning", a("a"), a("ab")},
		{"atoms, one empty", a(""), a("a")},
		{"rows, one the other's beginning", rowOf(n(1)), rowOf(n(1), n(1))},
		{"rows the other way round", rowOf(n(1), n(2)), rowOf(n(2), n(1))},
		{"rows, unlike at their end", rowOf(n(1), n(2)), rowOf(n(1), n(3))},
		{"rows, unlike deep in them", rowOf(rowOf(rowOf(a("a")))), rowOf(rowOf(rowOf(a("b"))))},
		{"a row and what it holds", rowOf(n(1)), n(1)},
		{"boxes under unlike keys", boxOf(1, n(1)), boxOf(2, n(1))},
		{"boxes of unlike terms", boxOf(1, n(1)), boxOf(1, n(2))},
		{"a box and a row", boxOf(0, n(1)), rowOf(n(1))},
	} {
		if Same(x.a, x.b) || Same(x.b, x.a) {
			t.Errorf("%s: the same", x.name)
		}
	}
}

// P2.2: what may not be is the same as nothing, not as itself.
func TestSameOfTermsThatMayNotBe(t *testing.T) {
	for name, x := range refused() {
		if Same(x.t, x.t) {
			t.Errorf("%s: the same as itself", name)
		}
		for other, y := range allowed() {
			if Same(x.t, y) || Same(y, x.t) {
				t.Errorf("%s and %s: the same", name, other)
			}
		}
	}
}

// P2.5: just the fields of their kind are set, whatever stands in them.
func TestNumAtomKey(t *testing.T) {
	for _, n := range edges() {
		if got := Num(n); !equal(got, api.Term{Kind: 1, Num: n}) {
			t.Errorf("Num(%d): %v", n, got)
		}
		if got := Key(n); !equal(got, api.Term{Kind: 3, Num: n}) {
			t.Errorf("Key(%d): %v", n, got)
		}
	}
	for _, s := range []string{"", "a", "\x00\xff", long(4000), long(4001), long(100000)} {
		if got := Atom(s); !equal(got, api.Term{Kind: 2, Bytes: s}) {
			t.Errorf("Atom of %d bytes", len(s))
		}
	}
}

// P2.5: a row of these terms, as they are, in order.
func TestOf(t *testing.T) {
	if got := Of(); !equal(got, api.Term{Kind: 5}) {
		t.Errorf("of none: %v", got)
	}
	if got := Of([]api.Term{}...); !equal(got, api.Term{Kind: 5}) {
		t.Errorf("of an empty list: %v", got)
	}
	if got := Of(Num(5), Atom("ab"), Key(300)); !equal(got, rowOf(Num(5), Atom("ab"), Key(300))) || Right(got) != api.OK {
		t.Errorf("of three: %v", got)
	}
	if got := Of(Of(), Of(Num(1), Of(Num(2))), boxOf(9, Num(3))); !equal(got, rowOf(rowOf(), rowOf(Num(1), rowOf(Num(2))), boxOf(9, Num(3)))) {
		t.Errorf("of rows: %v", got)
	}
	for name, x := range refused() {
		if got := Of(x.t, Num(1), x.t); !equal(got, rowOf(x.t, Num(1), x.t)) {
			t.Errorf("of one that may not be: %s", name)
		}
	}
	if got := Of(numbers(5000)...); len(got.List) != 5000 || Right(got) != api.ErrMany {
		t.Errorf("of 5000: %d", len(got.List))
	}
}

// R4: what Of answers shares no list with what it was given, nor its own lists with one another.
func TestOfIsNewMemory(t *testing.T) {
	deepest := []api.Term{Num(1), Num(2)}
	middle := []api.Term{boxOf(3, rowOf(deepest...)), Num(4)}
	middle[0].List[0].List = deepest
	room := []api.Term{rowOf(), rowOf(), Num(77), Num(78)}
	room[0].List, room[1].List = middle, middle
	want := plain(rowOf(room[:2]...))
	first, second := Of(room[:2]...), Of(room[:2]...)

	if !equal(room[2], Num(77)) || !equal(room[3], Num(78)) {
		t.Error("the spare room was written to")
	}
	deepest[0], middle[1], room[0] = Num(90), Num(91), Num(92)
	if !equal(first, want) || !equal(second, want) {
		t.Errorf("a change of what was handed in shows: %v", first)
	}
	first.List[0].List[0].List[0].List[1] = Num(93)
	first.List[0].List[1] = Num(94)
	if !equal(second, want) {
		t.Error("a change of one answer shows in another one")
	}
	if !equal(first.List[1], want.List[1]) {
		t.Error("a change of one list shows in another one of the same answer")
	}
	if !equal(middle[1], Num(91)) || !equal(deepest[1], Num(2)) {
		t.Error("a change of the answer shows in what was handed in")
	}
	_ = append(first.List[1].List, Num(95))
	_ = append(first.List[1].List[0].List, Num(96))
	if !equal(first.List[1], want.List[1]) || !equal(second, want) {
		t.Error("spare room is shared")
	}
}

// P2.5: terms that stand very deep in one another are put into a row, too.
func TestOfDeepTerms(t *testing.T) {
	got := Of(within(api.Row, 60000, Num(8)))
	deep := 0
	for len(got.List) == 1 {
		got = got.List[0]
		deep++
	}
	if deep != 60001 || !equal(got, Num(8)) {
		t.Errorf("%d deep: %v", deep, got)
	}
}

// P2.6: every atom of the right ones, each once, rising byte by byte.
func TestAtoms(t *testing.T) {
	for _, x := range []struct {
		name string
		l    []api.Term
		want []string
	}{
		{"of none", nil, nil},
		{"of an empty list", []api.Term{}, nil},
		{"the chapter's", []api.Term{Of(Atom("b"), Atom("a"), Atom("b")), {}}, []string{"a", "b"}},
		{"without atoms", []api.Term{Num(1), Key(2), Of(), boxOf(3, Of(Num(4)))}, nil},
		{"atoms by themselves", []api.Term{Atom("b"), Atom("a")}, []string{"a", "b"}},
		{"an empty one", []api.Term{Atom("")}, []string{""}},
		{"an empty one and others", []api.Term{Atom("a"), Atom(""), Atom("")}, []string{"", "a"}},
		{"the same in several terms", []api.Term{Atom("a"), Of(Atom("a")), boxOf(1, Atom("a"))}, []string{"a"}},
		{"in boxes and rows", []api.Term{boxOf(1, Of(Atom("d"), boxOf(2, Of(Of(Atom("c"))))))}, []string{"c", "d"}},
		{"beside keys and numbers", []api.Term{Of(Key(1), Atom("k"), Num(2), Atom("n"), Of())}, []string{"k", "n"}},
		{"byte by byte", []api.Term{Of(Atom("b"), Atom("\xff"), Atom("ab"), Atom("a"), Atom("B"), Atom("\x00"), Atom("aa"), Atom("é"))},
			[]string{"\x00", "B", "a", "aa", "ab", "b", "é", "\xff"}},
		{"the longest", []api.Term{Atom(long(4000)), Atom(long(3999))}, []string{long(3999), long(4000)}},
		{"twelve deep", []api.Term{within(api.Row, 11, Atom("x"))}, []string{"x"}},
		{"as many as may be", []api.Term{Of(append(numbers(3998), Atom("x"))...)}, []string{"x"}},
		{"wrong ones are passed over", []api.Term{Atom(long(4001)), {Kind: 2, Num: 1, Bytes: "q"}, Atom("z"), Of(Atom("y"), api.Term{}), boxOf(1), Atom("w")}, []string{"w", "z"}},
		{"too deep", []api.Term{within(api.Row, 12, Atom("x")), Atom("y")}, []string{"y"}},
		{"too many", []api.Term{Of(append(numbers(3999), Atom("x"))...), Atom("y")}, []string{"y"}},
		{"more in all than one may have", []api.Term{Of(numbers(3999)...), Of(append(numbers(3998), Atom("x"))...), Atom("y")}, []string{"x", "y"}},
	} {
		if got := Atoms(x.l...); !slices.Equal(got, x.want) {
			t.Errorf("%s: %q, want %q", x.name, got, x.want)
		}
	}
	for name, x := range refused() {
		if got := Atoms(x.t, Of(Atom("in"), x.t)); len(got) != 0 {
			t.Errorf("%s: %q", name, got)
		}
	}
}

// R4: the terms stay as they were, and two answers share nothing.
func TestAtomsChangesNothing(t *testing.T) {
	l := []api.Term{Of(Atom("c"), Atom("b")), Atom("a"), Atom("spare")}
	want := plain(rowOf(l...))
	first, second := Atoms(l[:2]...), Atoms(l[:2]...)
	if !equal(rowOf(l...), want) {
		t.Errorf("the terms were changed: %v", l)
	}
	first[0] = "changed"
	_ = append(first, "more")
	if !slices.Equal(second, []string{"a", "b", "c"}) {
		t.Errorf("answers share memory: %q", second)
	}
}

// R6: the same again, in another order too.
func TestAtomsHangOnTheTermsAlone(t *testing.T) {
	l := []api.Term{Atom("c"), Of(Atom("a"), boxOf(1, Atom("d"))), Atom("b"), Of(Atom("a"))}
	for range 10 {
		l = append(l[1:], l[0])
		if got := Atoms(l...); strings.Join(got, " ") != "a b c d" {
			t.Errorf("%q", got)
		}
	}
}
