package box

import (
	"slices"
	"strings"
	"testing"

	"lethe/api"
	"lethe/term"
)

// P3.1: a box under the key that holds just the term, and is right.
func TestSeal(t *testing.T) {
	for name, x := range fitting() {
		for _, key := range keys {
			got, e := Seal(key, x)
			if e != api.OK || !equal(got, boxOf(key, x)) || term.Right(got) != api.OK {
				t.Errorf("%s under %d: %d", name, key, e)
			}
		}
	}
}

// P3.1: the term's own error ahead of its box's, which may be another one.
func TestSealRefuses(t *testing.T) {
	for _, all := range []map[string]refused{wrong(), tooBig()} {
		for name, x := range all {
			for _, key := range []uint64{0, 7, 1 << 63} {
				refuses(t, name, x.e)(Seal(key, x.t))
			}
		}
	}
}

// P3.1: what a box holds, whatever that is, boxes too: only one is opened.
func TestOpen(t *testing.T) {
	for name, x := range fitting() {
		for _, key := range keys {
			if got, e := Open(key, boxOf(key, x)); e != api.OK || !equal(got, x) {
				t.Errorf("%s under %d: %d", name, key, e)
			}
		}
	}
}

// P3.1: a term that may not be is told ahead of one that is no box, and that ahead of another key.
func TestOpenRefuses(t *testing.T) {
	for name, x := range wrong() {
		for _, key := range []uint64{0, 7, 8} {
			refuses(t, name, x.e)(Open(key, x.t))
		}
	}
	for name, x := range fitting() {
		if x.Kind != api.Box {
			refuses(t, name, api.ErrBox)(Open(x.Num, x))
			refuses(t, name, api.ErrBox)(Open(x.Num+1, x))
		}
	}
	for name, x := range tooBig() {
		if x.t.Kind != api.Box {
			refuses(t, name, api.ErrBox)(Open(7, x.t))
		}
	}
	refuses(t, "a row of one box", api.ErrBox)(Open(7, rowOf(boxOf(7, rowOf()))))
	refuses(t, "a box in a box, with the inner one's key", api.ErrKey)(Open(7, boxOf(8, boxOf(7, rowOf()))))
	refuses(t, "a box of a key, with that", api.ErrKey)(Open(7, boxOf(8, term.Key(7))))
}

// P3.1: a box that is itself as great as may be opens.
func TestOpenAtTheEdges(t *testing.T) {
	for name, x := range tooBig() {
		if x.t.Kind != api.Box {
			continue
		}
		if got, e := Open(x.t.Num, x.t); e != api.OK || !equal(got, x.t.List[0]) {
			t.Errorf("%s: %d", name, e)
		}
		refuses(t, name, api.ErrKey)(Open(x.t.Num+1, x.t))
	}
}

// P3.4: what is sealed opens with its key, and with no other.
func TestOnlyItsKeyOpens(t *testing.T) {
	for name, x := range fitting() {
		for _, key := range keys {
			s := must(t)(Seal(key, x))
			for _, other := range keys {
				if other != key {
					refuses(t, name, api.ErrKey)(Open(other, s))
				} else if got := must(t)(Open(other, s)); !equal(got, x) {
					t.Errorf("%s under %d: opened as another one", name, key)
				}
			}
		}
	}
}

// P3.2: the first key is the innermost one; without keys it is the term as it is.
func TestWrapAndUnwrap(t *testing.T) {
	for name, x := range map[string]api.Term{
		"atom": term.Atom("a"),
		"row":  rowOf(term.Num(1), rowOf(), boxOf(3, term.Key(2))),
		"box":  boxOf(1, boxOf(2, term.Num(3))),
	} {
		for _, under := range [][]uint64{nil, {}, {1}, {1, 2}, {2, 1}, {5, 5}, {3, 1, 2}, {0, 1 << 63, 0}, {1, 2, 3, 4, 5, 6, 7, 8}, {9, 9, 9, 9, 9, 9, 9, 9}} {
			got, e := Wrap(x, under...)
			if e != api.OK || !equal(got, sealed(x, under...)) {
				t.Errorf("%s wrapped under %v: %d, %v", name, under, e, got)
			}
			got, e = Unwrap(sealed(x, under...), under...)
			if e != api.OK || !equal(got, x) {
				t.Errorf("%s unwrapped under %v: %d, %v", name, under, e, got)
			}
		}
	}
}

// P3.2: the chapter's rows.
func TestWrapAndUnwrapAsInTheChapter(t *testing.T) {
	a := term.Atom("a")
	w := must(t)(Wrap(a, 1, 2))
	if !equal(w, boxOf(2, boxOf(1, a))) {
		t.Errorf("Wrap: %v", w)
	}
	if got := must(t)(Unwrap(w, 1, 2)); !equal(got, a) {
		t.Errorf("Unwrap: %v", got)
	}
	refuses(t, "the other way round", api.ErrKey)(Unwrap(w, 2, 1))
	if got := must(t)(Unwrap(w)); !equal(got, w) {
		t.Errorf("Unwrap without keys: %v", got)
	}
	if got := must(t)(Wrap(a)); !equal(got, a) {
		t.Errorf("Wrap without keys: %v", got)
	}
	refuses(t, "nine keys", api.ErrLong)(Wrap(a, 1, 2, 3, 4, 5, 6, 7, 8, 9))
}

// P3.2: more than MaxKeys keys are told ahead of anything else; then what is wrong with the term, keys or none.
func TestWrapAndUnwrapRefuse(t *testing.T) {
	for _, n := range []int{9, 10, 1000} {
		under := make([]uint64, n)
		refuses(t, "too many keys", api.ErrLong)(Wrap(rowOf(), under...))
		refuses(t, "too many keys", api.ErrLong)(Unwrap(sealed(rowOf(), under[:9]...), under...))
		for name, x := range wrong() {
			refuses(t, name, api.ErrLong)(Wrap(x.t, under...))
			refuses(t, name, api.ErrLong)(Unwrap(x.t, under...))
		}
	}
	for name, x := range wrong() {
		for _, under := range [][]uint64{nil, {7}, {8}, {7, 7}, {1, 2, 3, 4, 5, 6, 7, 8}} {
			refuses(t, name, x.e)(Wrap(x.t, under...))
			refuses(t, name, x.e)(Unwrap(x.t, under...))
		}
	}
}

// P3.2: so many boxes as fit about a term, and the error of the first one that doesn't.
func TestWrapAtTheEdges(t *testing.T) {
	for _, x := range []struct {
		name string
		t    api.Term
		fit  int
		e    api.Errno
	}{
		{"3992 in all", rowOf(numbers(3991)...), 8, api.OK},
		{"3993 in all", rowOf(numbers(3992)...), 7, api.ErrMany},
		{"4000 in all", rowOf(numbers(3999)...), 0, api.ErrMany},
		{"four deep", within(3, rowOf()), 8, api.OK},
		{"five deep", within(4, rowOf()), 7, api.ErrDeep},
		{"twelve deep", within(11, rowOf()), 0, api.ErrDeep},
		{"3992, four deep", manyDeep(3992, 4), 8, api.OK},
		{"many ahead of deep", manyDeep(3995, 5), 5, api.ErrMany},
		{"many and deep in one", manyDeep(3995, 7), 5, api.ErrMany},
		{"deep ahead of many", manyDeep(3995, 8), 4, api.ErrDeep},
	} {
		for n := range 9 {
			under := keys[:n]
			if n > x.fit {
				refuses(t, x.name, x.e)(Wrap(x.t, under...))
				continue
			}
			w := must(t)(Wrap(x.t, under...))
			if !equal(w, sealed(x.t, under...)) {
				t.Errorf("%s: %d keys wrap it as another one", x.name, n)
			}
			if got := must(t)(Unwrap(w, under...)); !equal(got, x.t) {
				t.Errorf("%s: %d keys unwrap it as another one", x.name, n)
			}
		}
	}
}

// P3.2: the last key opens the outermost box; the error is that of the first box that doesn't open.
func TestUnwrapTellsTheFirstErrorMet(t *testing.T) {
	w := sealed(term.Atom("a"), 1, 2, 3)
	for _, x := range []struct {
		name string
		keys []uint64
		e    api.Errno
	}{
		{"another key outside", []uint64{1, 2, 4}, api.ErrKey},
		{"another key inside", []uint64{4, 2, 3}, api.ErrKey},
		{"other keys all over", []uint64{4, 4, 4}, api.ErrKey},
		{"the first keys alone", []uint64{1, 2}, api.ErrKey},
		{"one key too many inside", []uint64{1, 1, 2, 3}, api.ErrBox},
		{"one key too many outside", []uint64{1, 2, 3, 3}, api.ErrKey},
		{"a key too many ahead of another key", []uint64{9, 9, 4, 2, 3}, api.ErrKey},
		{"many keys too many", []uint64{1, 1, 1, 1, 1, 1, 2, 3}, api.ErrBox},
	} {
		refuses(t, x.name, x.e)(Unwrap(w, x.keys...))
	}
	refuses(t, "no box", api.ErrBox)(Unwrap(term.Num(1), 1))
	for n, want := range []api.Term{w, w.List[0], w.List[0].List[0], term.Atom("a")} {
		if got := must(t)(Unwrap(w, []uint64{1, 2, 3}[3-n:]...)); !equal(got, want) {
			t.Errorf("the last %d keys: %v", n, got)
		}
	}
}

// orders are all rows of n keys out of 1 to 3.
func orders(n int) [][]uint64 {
	all := [][]uint64{nil}
	for range n {
		var next [][]uint64
		for _, l := range all {
			for key := uint64(1); key <= 3; key++ {
				next = append(next, append(slices.Clone(l), key))
			}
		}
		all = next
	}
	return all
}

// P3.4: what is wrapped unwraps with the same keys in the same order, and in no other one that is unlike it.
func TestOnlyTheSameOrderUnwraps(t *testing.T) {
	for n := range 5 {
		for _, under := range orders(n) {
			for _, a := range []api.Term{term.Atom("a"), boxOf(1, boxOf(2, boxOf(3, rowOf())))} {
				w := must(t)(Wrap(a, under...))
				for _, other := range orders(n) {
					if !slices.Equal(under, other) {
						refuses(t, "another order", api.ErrKey)(Unwrap(w, other...))
					} else if got := must(t)(Unwrap(w, other...)); !equal(got, a) {
						t.Errorf("%v: unwrapped as another one", under)
					}
				}
			}
		}
	}
}

// P3.3: the bytes of the box, and what is read of them.
func TestPackAndUnpack(t *testing.T) {
	for _, x := range []struct {
		key uint64
		t   api.Term
		s   string
	}{
		{1, rowOf(), "\x04\x01\x05\x00"},
		{0, term.Num(0), "\x04\x00\x01\x00"},
		{300, term.Atom("ab"), "\x04\xac\x02\x02\x02ab"},
		{7, boxOf(8, term.Key(9)), "\x04\x07\x04\x08\x03\x09"},
		{7, rowOf(term.Num(5), term.Atom("")), "\x04\x07\x05\x02\x01\x05\x02\x00"},
	} {
		if s, e := Pack(x.key, x.t); s != x.s || e != api.OK {
			t.Errorf("Pack: % x, %d, want % x", s, e, x.s)
		}
		if got, e := Unpack(x.key, x.s); !equal(got, x.t) || e != api.OK {
			t.Errorf("Unpack of % x: %v, %d", x.s, got, e)
		}
	}
	for name, x := range fitting() {
		for _, key := range keys {
			s, e := Pack(key, x)
			want, _ := term.Encode(boxOf(key, x))
			if e != api.OK || s != want {
				t.Errorf("%s packed under %d: %d", name, key, e)
			}
			if got, e := Unpack(key, s); e != api.OK || !equal(got, x) {
				t.Errorf("%s unpacked under %d: %d", name, key, e)
			}
			refuses(t, name, api.ErrKey)(Unpack(key+1, s))
		}
	}
}

// P3.3: Seal's error, and no bytes beside it.
func TestPackRefuses(t *testing.T) {
	for _, all := range []map[string]refused{wrong(), tooBig()} {
		for name, x := range all {
			if s, e := Pack(7, x.t); s != "" || e != x.e {
				t.Errorf("%s: %d bytes, %d, want %d", name, len(s), e, x.e)
			}
		}
	}
}

// P3.3: bytes that are no term are told ahead of a term that is no box, and that ahead of another key.
func TestUnpackRefuses(t *testing.T) {
	boxes := func(n int) string { return strings.Repeat("\x04\x07", n) }
	for _, x := range []struct {
		name, s string
		e       api.Errno
	}{
		{"nothing", "", api.ErrShort},
		{"a box that ends early", "\x04\x07", api.ErrShort},
		{"a box without a key", "\x04", api.ErrShort},
		{"another box that ends early", "\x04\x08\x02\x03a", api.ErrShort},
		{"no kind", "\x06", api.ErrForm},
		{"no kind in a box", "\x04\x07\x00", api.ErrForm},
		{"a key in too many bytes", "\x04\x87\x00\x05\x00", api.ErrForm},
		{"a box and a rest", "\x04\x07\x05\x00\x00", api.ErrRest},
		{"another box and a rest", "\x04\x08\x05\x00\x00", api.ErrRest},
		{"no box and a rest", "\x05\x00\x00", api.ErrRest},
		{"a box of two", "\x04\x07\x01\x01\x01\x02", api.ErrRest},
		{"an atom that is too long", "\x04\x07\x02" + term.PutNum(api.MaxAtom+1), api.ErrTerm},
		{"thirteen deep", boxes(12) + "\x05\x00", api.ErrDeep},
		{"4001 in all", "\x04\x07\x05" + term.PutNum(3999) + strings.Repeat("\x01\x00", 3999), api.ErrMany},
		{"a row", "\x05\x00", api.ErrBox},
		{"a row of a box", "\x05\x01\x04\x07\x05\x00", api.ErrBox},
		{"a number", "\x01\x07", api.ErrBox},
		{"a key", "\x03\x07", api.ErrBox},
		{"an atom of a box's bytes", "\x02\x04\x04\x07\x05\x00", api.ErrBox},
		{"another box", "\x04\x08\x05\x00", api.ErrKey},
		{"a box in another one", "\x04\x08\x04\x07\x05\x00", api.ErrKey},
	} {
		refuses(t, x.name, x.e)(Unpack(7, x.s))
	}
	if got := must(t)(Unpack(7, boxes(11)+"\x05\x00")); !equal(got, sealed(rowOf(), 7, 7, 7, 7, 7, 7, 7, 7, 7, 7)) {
		t.Errorf("twelve deep: %v", got)
	}
}

// calls are all ways by which a list could come through from an argument into an answer.
func calls() map[string]func(t api.Term) (api.Term, api.Errno) {
	return map[string]func(t api.Term) (api.Term, api.Errno){
		"Seal":                func(t api.Term) (api.Term, api.Errno) { return Seal(8, t) },
		"Open":                func(t api.Term) (api.Term, api.Errno) { return Open(7, t) },
		"Wrap":                func(t api.Term) (api.Term, api.Errno) { return Wrap(t, 1, 2) },
		"Wrap without keys":   func(t api.Term) (api.Term, api.Errno) { return Wrap(t) },
		"Unwrap":              func(t api.Term) (api.Term, api.Errno) { return Unwrap(t, 7) },
		"Unwrap without keys": func(t api.Term) (api.Term, api.Errno) { return Unwrap(t) },
	}
}

// lists are all lists in a term, each as far as its spare room goes.
func lists(t api.Term) [][]api.Term {
	all := [][]api.Term{t.List[:cap(t.List)]}
	for _, part := range t.List {
		all = append(all, lists(part)...)
	}
	return all
}

// R4: no list of an answer, nor its spare room, is one of the argument's, of another answer's, or twice in it.
func TestAnswersAreNewMemory(t *testing.T) {
	inner := []api.Term{term.Num(1), term.Num(2), term.Num(71), term.Num(72)}
	parts := []api.Term{{Kind: api.Row, List: inner[:2]}, {Kind: api.Row, List: inner[:2]}, term.Num(73)}
	held := []api.Term{{Kind: api.Row, List: parts[:2]}, term.Num(74)}
	x := api.Term{Kind: api.Box, Num: 7, List: held[:1]}
	given := [][]api.Term{held, parts, inner}
	before := rowOf(term.Of(held...), term.Of(parts...), term.Of(inner...))
	unchanged := func() bool {
		return equal(rowOf(term.Of(held...), term.Of(parts...), term.Of(inner...)), before)
	}

	for name, call := range calls() {
		first, second := must(t)(call(x)), must(t)(call(x))
		if !unchanged() {
			t.Errorf("%s changes what was handed in", name)
		}
		seen := map[*api.Term]bool{}
		for _, l := range slices.Concat(given, lists(first), lists(second)) {
			for i := range l {
				if seen[&l[i]] {
					t.Fatalf("%s: two lists share memory", name)
				}
				seen[&l[i]] = true
			}
		}
	}
}

// R4: the keys stay as they were, and the spare room behind them.
func TestKeysAreNotChanged(t *testing.T) {
	room := []uint64{1, 2, 3, 77, 78}
	must(t)(Unwrap(must(t)(Wrap(term.Atom("a"), room[:3]...)), room[:3]...))
	if !slices.Equal(room, []uint64{1, 2, 3, 77, 78}) {
		t.Errorf("the keys were changed: %v", room)
	}
}

// R1: a list that holds itself ends, too.
func TestTermsThatHoldThemselves(t *testing.T) {
	l := make([]api.Term, 1)
	l[0] = boxOf(7, l...)
	for name, call := range calls() {
		refuses(t, name, api.ErrMany)(call(boxOf(7, l...)))
	}
}

// R1: whatever the bytes and the key are, Unpack ends; what it reads is just what Pack writes.
func FuzzUnpack(f *testing.F) {
	for _, x := range fitting() {
		s, _ := Pack(7, x)
		f.Add(uint64(7), s)
	}
	for _, s := range []string{"", "\x04\x07", "\x05\x00", "\x04\x08\x05\x00", "\x04\x07\x05\x00\x00"} {
		f.Add(uint64(7), s)
	}
	f.Fuzz(func(t *testing.T, key uint64, s string) {
		x, e := Unpack(key, s)
		if e != api.OK {
			refuses(t, "bytes", e)(x, e)
			return
		}
		if again, e := Pack(key, x); e != api.OK || again != s {
			t.Fatalf("read as % x, %d", again, e)
		}
	})
}
