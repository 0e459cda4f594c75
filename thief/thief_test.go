package thief

import (
	"runtime/debug"
	"slices"
	"strings"
	"testing"

	"lethe/api"
	"lethe/term"
)

// The chapter's examples.
func TestExamples(t *testing.T) {
	b := bytesOf(4, 7, 5, 2, 2, 1, 97, 3, 8)
	c := bytesOf(4, 8, 2, 1, 98)
	k := bytesOf(3, 7)
	gets(t, got{shut: 2}, b, c)
	gets(t, got{keys: []uint64{7, 8}, atoms: []string{"a", "b"}}, c, b, k)
	gets(t, got{keys: []uint64{7}, shut: 1}, c, k)
	if !Has("b", c, bytesOf(3, 8)) {
		t.Error("Has doesn't know b")
	}
	gets(t, got{atoms: []string{"hello"}}, "hello")
	gets(t, got{})
}

// P10.1, 'Words': a piece that is no term's bytes is an atom of these, whole, whatever stands in it.
func TestPiecesThatAreNoTerm(t *testing.T) {
	key, box := bytesOf(3, 7), bytesOf(4, 7, 2, 1, 97)
	for name, s := range map[string]string{
		"nothing":                 "",
		"a text":                  "hello",
		"a byte above all kinds":  bytesOf(6),
		"a byte below all kinds":  bytesOf(0),
		"a key that ends early":   key[:1],
		"a box that ends early":   box[:4],
		"a box of nothing":        box[:2],
		"two keys":                key + key,
		"a key and a byte":        key + "\x00",
		"a byte and a key":        "\x00" + key,
		"a row that has one more": bytesOf(5, 1) + key + key,
		"a row that ends early":   bytesOf(5, 2) + key,
		"a key in too many bytes": bytesOf(3, 135, 0),
		"an atom that is greater": bytesOf(2, 161, 31) + long(4001),
		"rows that are deeper":    strings.Repeat(bytesOf(5, 1), 12) + key,
		"a row of more":           bytesOf(5, 160, 31) + strings.Repeat(key, 4000),
		"text of any length":      long(api.MaxAtom + 1),
		"much text":               long(100000),
	} {
		t.Run(name, func(t *testing.T) {
			gets(t, got{atoms: []string{s}}, s)
			gets(t, got{atoms: []string{s}}, s, s)
			gets(t, got{atoms: []string{s}, shut: 1}, s, box)
			if g := all(box, s, key); !same(g, plainly(box, s, key)) || !slices.Contains(g.atoms, s) || g.shut != 0 {
				t.Errorf("with a box and its key: %v", g)
			}
		})
	}
}

// P10.1: what can be got at from one term, and from several.
func TestTerms(t *testing.T) {
	a, b, c := term.Atom("a"), term.Atom("b"), term.Atom("c")
	num, key, of := term.Num, term.Key, term.Of
	most := uint64(1<<64 - 1)
	for name, x := range map[string]struct {
		pieces []string
		want   got
	}{
		"a number":                       {pieces(num(7)), got{}},
		"an atom":                        {pieces(a), got{atoms: []string{"a"}}},
		"an empty atom":                  {pieces(term.Atom("")), got{atoms: []string{""}}},
		"the longest atom":               {pieces(term.Atom(long(4000))), got{atoms: []string{long(4000)}}},
		"a key":                          {pieces(key(7)), got{keys: []uint64{7}}},
		"the least and greatest key":     {pieces(key(most), key(0)), got{keys: []uint64{0, most}}},
		"an empty row":                   {pieces(of()), got{}},
		"a row of all kinds":             {pieces(of(key(2), num(3), b, of(a, key(1)), boxOf(9, c))), got{[]uint64{1, 2}, []string{"a", "b"}, 1}},
		"the deepest":                    {pieces(within(11, key(5))), got{keys: []uint64{5}}},
		"a row of as many as may be":     {pieces(of(slices.Repeat([]api.Term{key(5)}, 3999)...)), got{keys: []uint64{5}}},
		"a row of boxes":                 {pieces(of(slices.Repeat([]api.Term{boxOf(5, a)}, 1999)...)), got{shut: 1999}},
		"a shut box":                     {pieces(boxOf(7, a)), got{shut: 1}},
		"a box of its own key":           {pieces(boxOf(7, key(7))), got{shut: 1}},
		"a box of its key and an atom":   {pieces(boxOf(7, of(key(7), a))), got{shut: 1}},
		"a box and its key":              {pieces(boxOf(7, a), key(7)), got{[]uint64{7}, []string{"a"}, 0}},
		"a key and its box":              {pieces(key(7), boxOf(7, a)), got{[]uint64{7}, []string{"a"}, 0}},
		"a box under 0, no key":          {pieces(boxOf(0, a)), got{shut: 1}},
		"a box under 0, and its key":     {pieces(boxOf(0, a), key(0)), got{[]uint64{0}, []string{"a"}, 0}},
		"a box under the greatest key":   {pieces(boxOf(most, a), key(most)), got{[]uint64{most}, []string{"a"}, 0}},
		"keys alike in 32 bits":          {pieces(boxOf(7+1<<32, a), key(7)), got{[]uint64{7}, nil, 1}},
		"another key":                    {pieces(boxOf(7, a), key(8)), got{[]uint64{8}, nil, 1}},
		"a number is no key":             {pieces(boxOf(7, a), num(7)), got{shut: 1}},
		"an atom of a key's bytes":       {pieces(boxOf(7, a), term.Atom(bytesOf(3, 7))), got{nil, []string{bytesOf(3, 7)}, 1}},
		"a box's own Num is no key":      {pieces(boxOf(7, a), boxOf(7, b)), got{shut: 2}},
		"an opened box's Num is one":     {pieces(boxOf(7, boxOf(7, a)), key(7)), got{[]uint64{7}, []string{"a"}, 0}},
		"an empty row in a box":          {pieces(boxOf(7, of()), key(7)), got{keys: []uint64{7}}},
		"key and box in one row":         {pieces(of(key(7), boxOf(7, a))), got{[]uint64{7}, []string{"a"}, 0}},
		"box and key in one row":         {pieces(of(boxOf(7, a), key(7))), got{[]uint64{7}, []string{"a"}, 0}},
		"a key deep in rows":             {pieces(boxOf(7, a), within(9, key(7))), got{[]uint64{7}, []string{"a"}, 0}},
		"the outer key alone":            {pieces(boxOf(1, of(boxOf(2, a), b)), key(1)), got{[]uint64{1}, []string{"b"}, 1}},
		"the inner key alone":            {pieces(boxOf(1, of(boxOf(2, a), b)), key(2)), got{[]uint64{2}, nil, 1}},
		"both keys":                      {pieces(boxOf(1, of(boxOf(2, a), b)), key(2), key(1)), got{[]uint64{1, 2}, []string{"a", "b"}, 0}},
		"boxes in a shut box":            {pieces(boxOf(1, of(boxOf(2, a), boxOf(3, b), key(2)))), got{shut: 1}},
		"boxes in an opened box":         {pieces(boxOf(1, of(boxOf(2, a), boxOf(3, b), key(2))), key(1)), got{[]uint64{1, 2}, []string{"a"}, 1}},
		"boxes open each other":          {pieces(boxOf(3, c), boxOf(2, of(b, key(3))), boxOf(1, of(a, key(2))), key(1)), got{[]uint64{1, 2, 3}, []string{"a", "b", "c"}, 0}},
		"but for the first":              {pieces(boxOf(3, c), boxOf(2, of(b, key(3))), boxOf(1, of(a, key(2)))), got{shut: 3}},
		"but for the second":             {pieces(boxOf(3, c), boxOf(1, of(a, key(2))), key(1)), got{[]uint64{1, 2}, []string{"a"}, 1}},
		"each one's key in the other":    {pieces(boxOf(1, of(a, key(2))), boxOf(2, of(b, key(1)))), got{shut: 2}},
		"likewise, and one of the keys":  {pieces(boxOf(1, of(a, key(2))), boxOf(2, of(b, key(1))), key(2)), got{[]uint64{1, 2}, []string{"a", "b"}, 0}},
		"one box in three pieces":        {pieces(boxOf(7, a), boxOf(7, a), boxOf(7, a)), got{shut: 3}},
		"one box twice in a row":         {pieces(of(boxOf(7, a), boxOf(7, a)), boxOf(7, a)), got{shut: 3}},
		"a shut box in two opened ones":  {pieces(boxOf(1, boxOf(7, a)), boxOf(1, boxOf(7, a)), key(1)), got{[]uint64{1}, nil, 2}},
		"one key opens all of its boxes": {pieces(boxOf(7, a), of(boxOf(7, b), boxOf(8, c)), boxOf(7, c), key(7)), got{[]uint64{7}, []string{"a", "b", "c"}, 1}},
		"a key that comes again":         {pieces(key(7), boxOf(7, a), key(7), boxOf(7, key(7)), boxOf(7, b)), got{[]uint64{7}, []string{"a", "b"}, 0}},
		"keys in their order":            {pieces(key(300), key(2), of(key(most), key(300), key(10)), key(1<<63)), got{keys: []uint64{2, 10, 300, 1 << 63, most}}},
		"atoms in their order":           {pieces(b, of(term.Atom("\xff"), a, term.Atom("ab")), a, term.Atom(""), term.Atom("\x00"), term.Atom("B")), got{atoms: []string{"", "\x00", "B", "a", "ab", "b", "\xff"}}},
		"an atom in a box and out of it": {pieces(boxOf(7, a), a), got{nil, []string{"a"}, 1}},
	} {
		t.Run(name, func(t *testing.T) {
			gets(t, x.want, x.pieces...)
			slices.Reverse(x.pieces)
			gets(t, x.want, x.pieces...)
		})
	}
}

// P10.1: an atom that stands in a shut box alone is not known to Has; nor is a piece that is a term, nor a part of an atom.
func TestHas(t *testing.T) {
	a := term.Atom("abc")
	for name, x := range map[string]struct {
		atom   string
		pieces []string
		want   bool
	}{
		"no pieces":                {"abc", nil, false},
		"no pieces, the empty one": {"", nil, false},
		"an empty piece":           {"", []string{""}, true},
		"an atom":                  {"abc", pieces(a), true},
		"an atom's piece":          {piece(a), pieces(a), false},
		"a beginning":              {"ab", pieces(a), false},
		"an end":                   {"bc", pieces(a), false},
		"more":                     {"abcd", pieces(a), false},
		"in capitals":              {"ABC", pieces(a), false},
		"the empty one":            {"", pieces(a), false},
		"in a row":                 {"abc", pieces(term.Of(term.Num(1), a)), true},
		"in a shut box":            {"abc", pieces(boxOf(7, a), term.Key(8)), false},
		"in an opened box":         {"abc", pieces(boxOf(7, a), term.Key(7)), true},
		"in the last of many":      {"abc", append(slices.Repeat([]string{"hello"}, 1000), "abc"), true},
		"a key's digits":           {"7", pieces(term.Key(7)), false},
		"as bytes that are none":   {"abc", []string{"abc"}, true},
	} {
		if is := Has(x.atom, x.pieces...); is != x.want {
			t.Errorf("%s: %v", name, is)
		}
	}
}

// R1: boxes open each other in as long a chain as may be given, in whatever order they stand, with little memory for calls within calls.
func TestLongChains(t *testing.T) {
	defer debug.SetMaxStack(debug.SetMaxStack(1 << 20))
	const n = 100000
	chain := pieces(term.Key(0))
	want := got{keys: []uint64{0}}
	for i := range uint64(n) {
		chain = append(chain, piece(boxOf(i, term.Key(i+1))))
		want.keys = append(want.keys, i+1)
	}
	if !same(all(chain...), want) {
		t.Error("a chain, its first key ahead of it")
	}
	slices.Reverse(chain)
	if !same(all(chain...), want) {
		t.Error("a chain, its first key behind it")
	}
	if !same(all(chain[:n]...), got{shut: n}) {
		t.Error("a chain, its first key left out")
	}
}

// R1: very many boxes wait for one key; each is opened when it comes.
func TestManyBoxesUnderOneKey(t *testing.T) {
	const n = 100000
	s := piece(boxOf(7, term.Atom("a")))
	many := slices.Repeat([]string{s}, n)
	if g := all(many...); !same(g, got{shut: n}) {
		t.Errorf("without the key: %v", g)
	}
	if g := all(append(many, piece(term.Key(7)))...); !same(g, got{keys: []uint64{7}, atoms: []string{"a"}}) {
		t.Errorf("with the key: %v", g)
	}
}
