package commit

import (
	"math"
	"slices"
	"strings"
	"testing"
	"unsafe"

	"lethe/api"
	"lethe/box"
	"lethe/term"
)

// P17.1: the row of the seven fields, in their order.
func TestBytes(t *testing.T) {
	for _, x := range []struct {
		name string
		r    api.Record
		want string
	}{
		{"the chapter's", record(0, example(), 0, 6), "\x05\x07\x01\x00\x03\x07\x01\x00\x01\x00\x01\x06\x01\x00\x01\x06"},
		{"all fields others", record(1, ref(2, 3, 4, 5), 6, 7), "\x05\x07\x01\x01\x03\x02\x01\x03\x01\x04\x01\x05\x01\x06\x01\x07"},
		{"the least", record(0, ref(0, 0, 0, 1), 0, 0), "\x05\x07\x01\x00\x03\x00\x01\x00\x01\x00\x01\x01\x01\x00\x01\x00"},
		{
			"the greatest", record(lastNumber, ref(math.MaxUint64, lastSeg, lastOff, lastLen), lastSeg, lastOff),
			"\x05\x07\x01\xff\xff\xff\xff\x07\x03\xff\xff\xff\xff\xff\xff\xff\xff\xff\x01\x01\x80\x80\x40\x01\x80\x80\x80\x40\x01\x80\x80\x40\x01\x80\x80\x40\x01\x80\x80\x80\x40",
		},
		{"of two bytes", record(128, ref(300, 129, 130, 131), 132, 133), "\x05\x07\x01\x80\x01\x03\xac\x02\x01\x81\x01\x01\x82\x01\x01\x83\x01\x01\x84\x01\x01\x85\x01"},
	} {
		if s, err := Bytes(x.r); s != x.want || err != api.OK {
			t.Errorf("%s: % x, %d, want % x", x.name, s, err, x.want)
		}
		if r, err := Parse(x.want); r != x.r || err != api.OK {
			t.Errorf("%s: Parse %v, %d", x.name, r, err)
		}
	}
}

// P17.1: what may just be is written, and read again; and there is always room for it in a slot.
func TestParseOfBytes(t *testing.T) {
	for _, r := range edges() {
		s, err := Bytes(r)
		if s != bytesOf(r) || err != api.OK || len(s) > api.MaxCell {
			t.Errorf("Bytes(%v): % x, %d", r, s, err)
		}
		if got, err := Parse(s); got != r || err != api.OK {
			t.Errorf("Parse of %v: %v, %d", r, got, err)
		}
	}
}

// P17.1, R2: of what may not be there are no bytes; and what its bytes would be are none's.
func TestNoRecords(t *testing.T) {
	for _, r := range noRecords() {
		if s, err := Bytes(r); s != "" || err != 170 {
			t.Errorf("Bytes(%v): % x, %d", r, s, err)
		}
		noParse(t, "the bytes of what may not be", bytesOf(r))
	}
}

func noParse(t *testing.T, name, s string) {
	t.Helper()
	if r, err := Parse(s); r != (api.Record{}) || err != 170 {
		t.Errorf("%s: Parse(% x): %v, %d", name, s, r, err)
	}
}

// P17.1: bytes that are none of a record's, whatever term they are, or none.
func TestParseRefuses(t *testing.T) {
	l := partsOf(record(3, ref(4, 5, 6, 7), 8, 9))
	whole := row(l...)
	six := row(l[:6]...)
	for name, s := range map[string]string{
		"nothing":                  "",
		"hello":                    "hello",
		"a nought":                 "\x00",
		"a number":                 number(7),
		"a key":                    keyOf(7),
		"an atom":                  "\x02\x05hello",
		"a row of nothing":         row(),
		"a row of six":             six,
		"a row of eight":           row(append(slices.Clone(l), number(0))...),
		"a row of eight, ahead":    row(append([]string{number(0)}, l...)...),
		"a row of fourteen":        row(append(slices.Clone(l), l...)...),
		"a row that tells eight":   "\x05\x08" + whole[2:],
		"a row that tells six":     "\x05\x06" + whole[2:],
		"a row in a row":           row(whole),
		"in a box":                 "\x04\x07" + whole,
		"a box of seven":           "\x04\x07" + strings.Join(l, ""),
		"no row about it":          strings.Join(l, ""),
		"twice":                    whole + whole,
		"a nought behind":          whole + "\x00",
		"a nought ahead":           "\x00" + whole,
		"a number behind":          whole + number(1),
		"the key first":            row(l[1], l[0], l[2], l[3], l[4], l[5], l[6]),
		"the key last":             row(l[0], l[2], l[3], l[4], l[5], l[6], l[1]),
		"seven keys":               row(slices.Repeat([]string{keyOf(1)}, 7)...),
		"seven numbers":            row(slices.Repeat([]string{number(1)}, 7)...),
		"seven empty rows":         row(slices.Repeat([]string{row()}, 7)...),
		"seven atoms":              row(slices.Repeat([]string{"\x02\x011"}, 7)...),
		"seven in sevens too long": "\x05\x87\x00" + whole[2:],
		"very long":                strings.Repeat("x", 1<<20),
		"very many":                "\x05" + sevens(3999) + strings.Repeat(number(1), 3999),
		"too many":                 "\x05" + sevens(4000) + strings.Repeat(number(1), 4000),
		"as many as a word tells":  "\x05" + sevens(math.MaxUint64) + whole[2:],
		"too deep":                 strings.Repeat("\x05\x01", 1<<16),
		"deep, and seven":          "\x05\x07" + strings.Repeat("\x05\x01", 20),
	} {
		noParse(t, name, s)
	}
	if s, err := box.Pack(7, term.Of(term.Num(1))); err != api.OK {
		t.Error(err)
	} else {
		noParse(t, "a page", s)
	}
}

// P17.1: no part of it stands for another one's kind, and none is greater than it may be, whatever is left of it in fewer bits.
func TestParseRefusesParts(t *testing.T) {
	whole := partsOf(record(3, ref(4, 5, 6, 7), 8, 9))
	last := []int{lastNumber, 0, lastSeg, lastOff, lastLen, lastSeg, lastOff}
	for at := range whole {
		with := func(part string) string {
			l := slices.Clone(whole)
			l[at] = part
			return row(l...)
		}
		for _, part := range []string{"\x02\x00", "\x02\x011", row(), row(number(5)), row(keyOf(5)), "\x04\x05\x05\x00", "\x04\x05" + number(5), "\x04\x05" + keyOf(5), "\x06\x05", "\x00\x05", "\x81\x05", "\x83\x05", "", "\x01", "\x03"} {
			noParse(t, "another kind", with(part))
		}
		if at == 1 {
			noParse(t, "a number for the key", with(number(4)))
			noParse(t, "a key in too many bytes", with("\x03\x84\x00"))
			noParse(t, "a key that is no word", with("\x03\xff\xff\xff\xff\xff\xff\xff\xff\xff\x02"))
			continue
		}
		noParse(t, "a key for a number", with(keyOf(5)))
		noParse(t, "a number in too many bytes", with("\x01\x85\x00"))
		greatest := uint64(last[at])
		if r, err := Parse(with(number(greatest))); r == (api.Record{}) || err != api.OK {
			t.Errorf("part %d of %d: %v, %d", at, greatest, r, err)
		}
		for _, n := range []uint64{
			greatest + 1, greatest * 2, 1 << 31, 1<<31 + 5, 1 << 32, 1<<32 + 5, 1<<32 - 1, 1<<40 + 5, 1<<63 - 1, 1 << 63, 1<<63 + 5, 1<<64 - 5, math.MaxUint64,
		} {
			if n > greatest {
				noParse(t, "too great", with(number(n)))
			}
		}
	}
	noParse(t, "a page of no bytes", row(whole[0], whole[1], whole[2], whole[3], number(0), whole[5], whole[6]))
}

// P17.1: with any byte another one, one more or one less, just what is a record's bytes is read.
func TestParseOfAllNeighbours(t *testing.T) {
	read, refused := 0, 0
	look := func(s string) {
		t.Helper()
		want, is := parsed(s)
		r, err := Parse(s)
		if r != want || is != (err == api.OK) || !is && err != 170 {
			t.Errorf("Parse(% x): %v, %d, want %v", s, r, err, want)
		}
		if !is {
			refused++
			return
		}
		read++
		if own, err := Bytes(r); own != s || err != api.OK {
			t.Errorf("Bytes(%v): % x, %d, want % x", r, own, err, s)
		}
	}
	for _, r := range edges() {
		s := bytesOf(r)
		for at := range s {
			look(s[:at])
			look(s[at:])
			look(s[:at] + s[at+1:])
			for b := range 256 {
				one := string([]byte{byte(b)})
				look(s[:at] + one + s[at+1:])
				look(s[:at] + one + s[at:])
			}
		}
	}
	if read < 10000 || refused < 10000 {
		t.Errorf("%d were read, %d refused", read, refused)
	}
}

// R4: each answer is memory of its own, and what was handed in is not changed.
func TestBytesAreNew(t *testing.T) {
	r := record(0, example(), 0, 6)
	first, _ := Bytes(r)
	second, _ := Bytes(r)
	if unsafe.StringData(first) == unsafe.StringData(second) {
		t.Error("two answers lie at one place")
	}
	b := []byte(first)
	got, err := Parse(unsafe.String(&b[0], len(b)))
	if string(b) != second || err != api.OK {
		t.Errorf("what was handed in is now % x, %d", b, err)
	}
	clear(b)
	if got != r {
		t.Errorf("what was answered is now %v", got)
	}
}
