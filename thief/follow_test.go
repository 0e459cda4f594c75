package thief

import (
	"slices"
	"testing"

	"lethe/term"
)

// orders are all orders of a list.
func orders(l []string) [][]string {
	if len(l) < 2 {
		return [][]string{l}
	}
	var all [][]string
	for i := range l {
		rest := slices.Delete(slices.Clone(l), i, i+1)
		for _, behind := range orders(rest) {
			all = append(all, append([]string{l[i]}, behind...))
		}
	}
	return all
}

// P10.2: the pieces' order does not matter.
func TestOrder(t *testing.T) {
	a, b, key, of := term.Atom("a"), term.Atom("b"), term.Key, term.Of
	for _, l := range [][]string{
		pieces(boxOf(1, key(2)), boxOf(2, key(3)), boxOf(3, key(4)), boxOf(4, a), key(1)),
		pieces(boxOf(1, boxOf(2, boxOf(3, a))), key(2), boxOf(2, key(3)), key(1), boxOf(5, b)),
		pieces(of(boxOf(1, a), key(2)), of(boxOf(2, b), key(3)), of(boxOf(3, key(1)), boxOf(4, a))),
		append(pieces(boxOf(1, of(key(2), key(3))), boxOf(2, a), boxOf(2, a), of(key(1), b)), "b", ""),
	} {
		want := plainly(l...)
		for _, o := range orders(l) {
			gets(t, want, o...)
		}
	}
}

// P10.1, P10.2: of many pieces just what is got at by going through them again and again; and the same in another order.
func TestAgainstWalks(t *testing.T) {
	r := &rolls{}
	kinds := map[[3]bool]int{}
	for range 20000 {
		l := r.pieces()
		want := plainly(l...)
		gets(t, want, l...)
		slices.Sort(l)
		gets(t, want, l...)
		if t.Failed() {
			t.Fatalf("pieces: %q", l)
		}
		kinds[[3]bool{len(want.keys) > 1, len(want.atoms) > 1, want.shut > 1}]++
	}
	// Pieces that tell of nothing would show nothing.
	if len(kinds) < 8 {
		t.Errorf("only these were met: %v", kinds)
	}
}

// among tells whether all of a list stand in another one.
func among[T comparable](l, all []T) bool {
	return !slices.ContainsFunc(l, func(x T) bool { return !slices.Contains(all, x) })
}

// P10.2: from more pieces nothing less can be got at, wherever these stand.
func TestMorePieces(t *testing.T) {
	r := &rolls{now: 5}
	for range 5000 {
		l, more := r.pieces(), r.pieces()
		few := all(l...)
		for _, many := range [][]string{slices.Concat(l, more), slices.Concat(more, l), slices.Concat(l, l)} {
			if g := all(many...); !among(few.keys, g.keys) || !among(few.atoms, g.atoms) {
				t.Fatalf("%q: %v, with more %q: %v", l, few, many, g)
			}
		}
		for _, atom := range few.atoms {
			if !Has(atom, slices.Concat(more, l)...) {
				t.Fatalf("%q: %q is gone with more %q", l, atom, more)
			}
		}
	}
}

// P10.2: what stands in boxes alone can be got at with the keys of all of them, and with no fewer.
func TestAllKeysOfTheBoxesAround(t *testing.T) {
	const n = 6
	x, keys := term.Of(term.Atom("a"), term.Key(99)), pieces()
	for i := range uint64(n) {
		x = boxOf(10+i, term.Of(x))
		if i%2 == 0 {
			x = boxOf(10+i, x.List[0].List[0])
		}
		keys = append(keys, piece(term.Key(10+i)))
	}
	s := piece(x)
	for some := range 1 << n {
		l, given := []string{s}, got{}
		for i := range n {
			if some>>i&1 == 1 {
				l, given.keys = append(l, keys[i]), append(given.keys, 10+uint64(i))
			}
		}
		if some == 1<<n-1 {
			given.keys, given.atoms = append(given.keys, 99), []string{"a"}
		} else {
			given.shut = 1
		}
		gets(t, given, l...)
		slices.Reverse(l)
		gets(t, given, l...)
	}
}

// P10.2: as long as no piece has a key, no heap of boxes that want it lets anything out.
func TestKeyThatNoPieceHas(t *testing.T) {
	r := &rolls{now: 9}
	for range 2000 {
		secret := boxOf(1000, term.Atom("secret"))
		l := append(r.pieces(), piece(secret), piece(boxOf(uint64(r.below(9)), secret)), piece(term.Of(secret, r.term(1))))
		if Has("secret", l...) || slices.Contains(Atoms(l...), "secret") || Shut(l...) < 2 {
			t.Fatalf("%q", l)
		}
		if l = append(l, piece(term.Key(1000))); !Has("secret", l...) {
			t.Fatalf("%q", l)
		}
	}
}

// spoil writes over all of a list, its spare room too.
func spoil[T any](l []T, with T) {
	l = l[:cap(l)]
	for i := range l {
		l[i] = with
	}
}

// R4: pieces are neither changed nor kept, nor the room behind them.
func TestWhatIsHandedIn(t *testing.T) {
	room := append(pieces(boxOf(7, term.Atom("a")), term.Key(7), term.Atom("b"), boxOf(8, term.Num(1))), "c", "d", "e")
	before := slices.Clone(room)
	l := room[:4]
	want := got{[]uint64{7}, []string{"a", "b"}, 1}
	gets(t, want, l...)
	first := all(l...)
	if !slices.Equal(room, before) {
		t.Fatalf("the pieces are %q now", room)
	}
	spoil(room, "q")
	if !same(first, want) {
		t.Errorf("the answers are %v now", first)
	}
	gets(t, got{atoms: []string{"q"}}, l...)
	gets(t, want, before[:4]...)
}

// R4: what is handed out is nobody's memory, its spare room neither.
func TestWhatIsHandedOut(t *testing.T) {
	var l []string
	want := got{}
	for i := range byte(100) {
		l = append(l, piece(term.Key(uint64(i))), bytesOf(100, i))
		want.keys, want.atoms = append(want.keys, uint64(i)), append(want.atoms, bytesOf(100, i))
	}
	keys, atoms := Keys(l...), Atoms(l...)
	again := all(l...)
	spoil(keys, 1)
	spoil(atoms, "!")
	if !same(again, want) {
		t.Errorf("the other answers are %v now", again)
	}
	gets(t, want, l...)
}

// R5: no pieces are none, however they are handed in.
func TestNoPieces(t *testing.T) {
	gets(t, got{}, nil...)
	gets(t, got{}, []string{}...)
}

// R6: the same pieces, the same answers, whatever was asked before, and whatever order the maps have.
func TestSameAnswers(t *testing.T) {
	r := &rolls{now: 11}
	var l []string
	for range 60 {
		l = append(l, r.pieces()...)
	}
	for i := range uint64(300) {
		l = append(l, piece(boxOf(i, term.Key(1000*i))), piece(term.Key(i^5)))
	}
	want := all(l...)
	if len(want.keys) < 500 || len(want.atoms) < 6 {
		t.Fatalf("only %v is told", want)
	}
	for range 20 {
		all("hello", piece(term.Key(1<<50)))
		if g := all(l...); !same(g, want) {
			t.Fatalf("%v, then %v", want, g)
		}
	}
}

// R1: whatever bytes the pieces are, each call ends, and tells what can be got at.
func FuzzPieces(f *testing.F) {
	r := &rolls{now: 13}
	for range 50 {
		f.Add(piece(r.term(0)), piece(r.term(0)), piece(boxOf(7, r.term(0))))
	}
	f.Fuzz(func(t *testing.T, a, b, c string) {
		l := []string{a, b, c, piece(term.Key(7))}
		if g := all(l...); !same(g, plainly(l...)) {
			t.Fatalf("%q: %v", l, g)
		}
	})
}
