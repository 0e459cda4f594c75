package term

import (
	"slices"
	"strings"
	"testing"

	"lethe/api"
)

// P2.3: a kind's byte, a number in sevens, and what stands behind it.
func TestEncode(t *testing.T) {
	for _, x := range []struct {
		name string
		t    api.Term
		want string
	}{
		{"the chapter's row", rowOf(Num(5), Atom("ab"), Key(300)), bytesOf(5, 3, 1, 5, 2, 2, 97, 98, 3, 172, 2)},
		{"the chapter's box", boxOf(1, rowOf()), bytesOf(4, 1, 5, 0)},
		{"number 0", Num(0), bytesOf(1, 0)},
		{"number", Num(128), bytesOf(1, 128, 1)},
		{"the greatest number", Num(1<<64 - 1), bytesOf(1, 255, 255, 255, 255, 255, 255, 255, 255, 255, 1)},
		{"key 0", Key(0), bytesOf(3, 0)},
		{"key", Key(127), bytesOf(3, 127)},
		{"empty atom", Atom(""), bytesOf(2, 0)},
		{"atom", Atom("\x00\xff"), bytesOf(2, 2, 0, 255)},
		{"atom of 127", Atom(long(127)), bytesOf(2, 127) + long(127)},
		{"atom of 128", Atom(long(128)), bytesOf(2, 128, 1) + long(128)},
		{"atom of 4000", Atom(long(4000)), bytesOf(2, 160, 31) + long(4000)},
		{"empty row", rowOf(), bytesOf(5, 0)},
		{"row with an empty list", api.Term{Kind: api.Row, List: []api.Term{}}, bytesOf(5, 0)},
		{"rows in rows", rowOf(rowOf(), rowOf(Num(1), rowOf()), Num(2)), bytesOf(5, 3, 5, 0, 5, 2, 1, 1, 5, 0, 1, 2)},
		{"row of 128", rowOf(slices.Repeat([]api.Term{Num(3)}, 128)...), bytesOf(5, 128, 1) + strings.Repeat(bytesOf(1, 3), 128)},
		{"boxes", boxOf(300, boxOf(0, Atom("a"))), bytesOf(4, 172, 2, 4, 0, 2, 1, 97)},
		{"box in a row", rowOf(boxOf(7, Num(1)), Num(2)), bytesOf(5, 2, 4, 7, 1, 1, 1, 2)},
	} {
		if got, e := Encode(x.t); got != x.want || e != api.OK {
			t.Errorf("%s: % x, %d, want % x", x.name, got, e, x.want)
		}
		if n, e := Size(x.t); n != len(x.want) || e != api.OK {
			t.Errorf("%s: Size %d, %d, want %d", x.name, n, e, len(x.want))
		}
	}
}

// P2.3: Right's error, and nothing beside it (R2).
func TestEncodeAndSizeRefuse(t *testing.T) {
	for name, x := range refused() {
		if s, e := Encode(x.t); s != "" || e != x.e {
			t.Errorf("%s: Encode %d bytes, %d, want %d", name, len(s), e, x.e)
		}
		if n, e := Size(x.t); n != 0 || e != x.e {
			t.Errorf("%s: Size %d, %d, want %d", name, n, e, x.e)
		}
	}
}

// P2.3, P2.7: what is written is read again; Size is how many bytes there are; fewer end too early, more are a rest.
func TestDecodeOfEncode(t *testing.T) {
	for name, x := range allowed() {
		s := mustEncode(t, x)
		if n, e := Size(x); n != len(s) || e != api.OK {
			t.Errorf("%s: Size %d, %d, of %d bytes", name, n, e, len(s))
		}
		got, e := Decode(s)
		if e != api.OK || !equal(got, x) || !Same(got, x) {
			t.Errorf("%s: read as another one, %d", name, e)
		}
		for i := 0; i < len(s); i += 1 + len(s)/300 {
			if got, e := Decode(s[:i]); e != api.ErrShort || !equal(got, api.Term{}) {
				t.Errorf("%s: %d of %d bytes: %d", name, i, len(s), e)
			}
		}
		for _, behind := range []string{"\x00", "\x01", s} {
			if got, e := Decode(s + behind); e != api.ErrRest || !equal(got, api.Term{}) {
				t.Errorf("%s: with a rest: %d", name, e)
			}
		}
	}
}

// P2.4: what is wrong with bytes, the first that is met (R3); the term is empty then (R2).
func TestDecodeRefuses(t *testing.T) {
	rows := func(n int) string { return strings.Repeat(bytesOf(5, 1), n) }
	boxes := func(n int) string { return strings.Repeat(bytesOf(4, 1), n) }
	nums := func(n int) string { return strings.Repeat(bytesOf(1, 7), n) }
	row := func(n uint64) string { return "\x05" + PutNum(n) }
	atom := func(n uint64) string { return "\x02" + PutNum(n) }
	high := strings.Repeat("\x80", 9)
	for _, x := range []struct {
		name, s string
		want    api.Errno
	}{
		{"nothing", "", api.ErrShort},
		{"kind 6", bytesOf(6), api.ErrForm},
		{"kind 0", bytesOf(0), api.ErrForm},
		{"kind 0 and more", bytesOf(0, 0), api.ErrForm},
		{"kind 255", bytesOf(255, 1), api.ErrForm},
		{"number without one", bytesOf(1), api.ErrShort},
		{"atom without a length", bytesOf(2), api.ErrShort},
		{"key without one", bytesOf(3), api.ErrShort},
		{"box without a key", bytesOf(4), api.ErrShort},
		{"row without a length", bytesOf(5), api.ErrShort},
		{"number with a rest", bytesOf(1, 5, 0), api.ErrRest},
		{"atom that ends early", bytesOf(2, 3, 97), api.ErrShort},
		{"atom that ends one early", bytesOf(2, 2, 97), api.ErrShort},
		{"atom without bytes", bytesOf(2, 1), api.ErrShort},
		{"row of one that is not there", bytesOf(5, 1), api.ErrShort},
		{"row of two, one is not there", bytesOf(5, 2, 1, 1), api.ErrShort},
		{"box of one that is not there", bytesOf(4, 1), api.ErrShort},
		{"number that goes on", bytesOf(1, 128), api.ErrShort},
		{"number in too many bytes", bytesOf(1, 128, 0), api.ErrForm},
		{"key in too many bytes", bytesOf(3, 129, 0), api.ErrForm},
		{"atom's length in too many bytes", bytesOf(2, 129, 0, 97), api.ErrForm},
		{"row's length in too many bytes", bytesOf(5, 128, 0), api.ErrForm},
		{"box's key in too many bytes", bytesOf(4, 128, 0, 1, 1), api.ErrForm},
		{"number above 64 bits", "\x01" + high + "\x02", api.ErrForm},
		{"row's length above 64 bits", "\x05" + high + "\x7f", api.ErrForm},
		{"atom of 4001, all there", atom(4001) + long(4001), api.ErrTerm},
		{"atom of 4001, none there", atom(4001), api.ErrTerm},
		{"atom of 4000, one too few", atom(4000) + long(3999), api.ErrShort},
		{"the longest atom", atom(1<<64 - 1), api.ErrTerm},
		{"an atom of 2^63", atom(1<<63) + "abc", api.ErrTerm},
		{"an atom of 2^32", atom(1 << 32), api.ErrTerm},
		{"a row of 2^64 - 1, none there", row(1<<64 - 1), api.ErrShort},
		{"a row of 2^63, one there", row(1<<63) + nums(1), api.ErrShort},
		{"a row of 2^64 - 1, 3999 there", row(1<<64-1) + nums(3999), api.ErrMany},
		{"a row of 2^64 - 1, 3998 there", row(1<<64-1) + nums(3998), api.ErrShort},
		{"a row of 4000", row(4000) + nums(4000), api.ErrMany},
		{"a row of 4000, one too few", row(4000) + nums(3999), api.ErrMany},
		{"many ahead of form", row(4000) + nums(3999) + "\x06", api.ErrMany},
		{"form in the last one that may be", row(4000) + nums(3998) + "\x06", api.ErrForm},
		{"many in two rows", row(2) + row(2000) + nums(2000) + row(2000) + nums(2000), api.ErrMany},
		{"deep in a row of too many", rows(11) + row(5000) + nums(3988), api.ErrDeep},
		{"many, just not deep", rows(10) + row(5000) + nums(3989), api.ErrMany},
		{"many and deep at one term", row(3989) + nums(3988) + rows(11), api.ErrMany},
		{"deep one ahead of many", row(3988) + nums(3987) + rows(12), api.ErrDeep},
		{"deep ahead of short, rows", rows(12), api.ErrDeep},
		{"deep ahead of short, boxes", boxes(12), api.ErrDeep},
		{"deep ahead of form", rows(12) + "\x09", api.ErrDeep},
		{"deep, all there", rows(12) + nums(1), api.ErrDeep},
		{"deep in boxes and rows", boxes(6) + rows(6) + nums(1), api.ErrDeep},
		{"deep behind one that is not", row(2) + nums(1) + rows(11) + nums(1), api.ErrDeep},
		{"short eleven deep", rows(11), api.ErrShort},
		{"form twelve deep", rows(11) + "\x00", api.ErrForm},
		{"form of a kind without a number", bytesOf(5, 2, 1, 1, 7), api.ErrForm},
		{"the first of two that are wrong", bytesOf(5, 2, 2, 9, 97), api.ErrShort},
		{"wrong in the middle, and a rest", bytesOf(5, 1, 6, 1, 1), api.ErrForm},
		{"a row with a rest", bytesOf(5, 1, 1, 1, 1, 1), api.ErrRest},
		{"a box with a rest", bytesOf(4, 1, 1, 1, 1, 1), api.ErrRest},
		{"an atom with a rest", bytesOf(2, 1, 97, 98), api.ErrRest},
	} {
		got, e := Decode(x.s)
		if e != x.want || !equal(got, api.Term{}) {
			t.Errorf("%s: %d, want %d (%v)", x.name, e, x.want, got.Kind)
		}
	}
}

// P2.4: at the edges, all is read.
func TestDecodeAtTheEdges(t *testing.T) {
	for _, x := range []struct {
		name, s string
		want    api.Term
	}{
		{"number 0", bytesOf(1, 0), Num(0)},
		{"key", bytesOf(3, 172, 2), Key(300)},
		{"empty atom", bytesOf(2, 0), Atom("")},
		{"empty row", bytesOf(5, 0), rowOf()},
		{"box under 0", bytesOf(4, 0, 5, 0), boxOf(0, rowOf())},
		{"atom of 4000", "\x02" + PutNum(4000) + long(4000), Atom(long(4000))},
		{"row of 3999", "\x05" + PutNum(3999) + strings.Repeat(bytesOf(3, 5), 3999), rowOf(slices.Repeat([]api.Term{Key(5)}, 3999)...)},
		{"twelve rows", strings.Repeat(bytesOf(5, 1), 11) + bytesOf(5, 0), within(api.Row, 11, rowOf())},
		{"eleven boxes", strings.Repeat(bytesOf(4, 0), 11) + bytesOf(2, 1, 97), within(api.Box, 11, Atom("a"))},
		{"deep ones side by side", bytesOf(5, 2) + strings.Repeat(strings.Repeat(bytesOf(5, 1), 10)+bytesOf(1, 1), 2),
			rowOf(within(api.Row, 10, Num(1)), within(api.Row, 10, Num(1)))},
	} {
		if got, e := Decode(x.s); e != api.OK || !equal(got, x.want) {
			t.Errorf("%s: %d", x.name, e)
		}
	}
}

// P2.7: of all bytes of a few kinds, up to seven, just those are read that Encode writes of what is read, and that is right.
func TestDecodeOfAllShortBytes(t *testing.T) {
	const kinds = "\x00\x01\x02\x03\x04\x05\x06\x80\x81"
	read := 0
	for from := []string{""}; len(from[0]) <= 6; {
		var next []string
		for _, s := range from {
			x, e := Decode(s)
			if e != api.OK {
				if !equal(x, api.Term{}) {
					t.Fatalf("% x: %d, and a term", s, e)
				}
			} else {
				read++
				if again, e := Encode(x); Right(x) != api.OK || e != api.OK || again != s {
					t.Fatalf("% x is read as % x", s, again)
				}
			}
			// Only bytes that end too early can be a term's beginning.
			if e == api.ErrShort {
				for i := range len(kinds) {
					next = append(next, s+kinds[i:i+1])
				}
			}
		}
		from = next
	}
	if read < 1000 {
		t.Errorf("only %d were read", read)
	}
}

// someTerms are many small ones, unlike each other.
func someTerms() []api.Term {
	small := []api.Term{Num(0), Num(1), Num(128), Key(0), Key(1), Key(1 << 40), Atom(""), Atom("\x00"), Atom("a"), Atom("ab"), Atom("\x05\x00"), rowOf()}
	all := slices.Clone(small)
	for _, a := range small {
		all = append(all, boxOf(0, a), boxOf(1, a), boxOf(300, a), rowOf(a))
		for _, b := range small {
			all = append(all, rowOf(a, b), rowOf(a, rowOf(b)), rowOf(boxOf(1, a), b), boxOf(1, rowOf(a, b)))
		}
	}
	return all
}

// P2.7: unlike terms have unlike bytes, none of which another one's begin with.
func TestBytesTellTermsApart(t *testing.T) {
	type written struct {
		s string
		t api.Term
	}
	var all []written
	for _, x := range someTerms() {
		all = append(all, written{mustEncode(t, x), x})
	}
	for i, a := range all {
		for j, b := range all {
			if same := Same(a.t, b.t); same != (i == j) || same != (a.s == b.s) {
				t.Fatalf("% x and % x: the same: %v", a.s, b.s, same)
			}
			if i != j && strings.HasPrefix(a.s, b.s) {
				t.Fatalf("% x begins with % x", a.s, b.s)
			}
		}
	}
}

// R4: a term that was read shares no list with another answer, and Encode leaves its term alone.
func TestBytesAreNewMemory(t *testing.T) {
	s := bytesOf(5, 2, 5, 2, 1, 1, 1, 2, 5, 2, 1, 3, 1, 4)
	want := rowOf(rowOf(Num(1), Num(2)), rowOf(Num(3), Num(4)))
	first, _ := Decode(s)
	second, _ := Decode(s)
	_ = append(first.List[0].List, Num(90))
	_ = append(first.List, Num(91))
	if !equal(first, want) {
		t.Errorf("lists share spare room: %v", first)
	}
	first.List[0].List[1], first.List[1] = Num(92), Num(93)
	if !equal(second, want) {
		t.Errorf("two answers share a list: %v", second)
	}
	room := []api.Term{Num(1), Atom("a"), Num(77)}
	x := api.Term{Kind: api.Row, List: room[:2]}
	mustEncode(t, x)
	Size(x)
	if !equal(rowOf(room...), rowOf(Num(1), Atom("a"), Num(77))) || !equal(x, rowOf(Num(1), Atom("a"))) {
		t.Errorf("the term was changed: %v", room)
	}
}

// R1: whatever the bytes are, Decode ends, and does not panic.
func FuzzDecode(f *testing.F) {
	for _, x := range someTerms() {
		s, _ := Encode(x)
		f.Add(s)
	}
	f.Fuzz(func(t *testing.T, s string) {
		x, e := Decode(s)
		if e != api.OK {
			if !equal(x, api.Term{}) {
				t.Fatalf("%d, and a term", e)
			}
			return
		}
		if again, e := Encode(x); Right(x) != api.OK || e != api.OK || again != s {
			t.Fatalf("read as % x, %d", again, e)
		}
	})
}
