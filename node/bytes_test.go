package node

import (
	"maps"
	"math"
	"slices"
	"testing"

	"lethe/api"
	"lethe/box"
	"lethe/entry"
	"lethe/quota"
	"lethe/term"
)

// P6.3: the chapter's terms, part by part.
func TestTermOfTheExamples(t *testing.T) {
	for _, x := range []struct {
		n    api.Node
		want api.Term
	}{
		{leafOf(), rowOf(number(1))},
		{leafOf(secret("a", ver(1, "x", "n"))), rowOf(number(1), rowOf(atom("a"), rowOf(number(1), atom("x"), atom("n"))))},
		{leafOf(secret("a", ver(1, "x", "n"), ver(3, "", "m")), secret("b", ver(2, "y", ""))), rowOf(number(1),
			rowOf(atom("a"), rowOf(number(1), atom("x"), atom("n")), rowOf(number(3), atom(""), atom("m"))),
			rowOf(atom("b"), rowOf(number(2), atom("y"), atom(""))))},
		{innerOf(kid("a", 9, 1, 2, 3), kid("b", 8, 0, 0, 1)), rowOf(number(2),
			rowOf(atom("a"), key(9), number(1), number(2), number(3)),
			rowOf(atom("b"), key(8), number(0), number(0), number(1)))},
	} {
		if got, err := Term(example, x.n); err != api.OK || !equal(got, x.want) {
			t.Errorf("%v: %v, %d, want %v", x.n, got, err, x.want)
		}
		answers(t, "From", x.n)(From(example, x.want))
	}
}

// P6.3: the term of each node that may be, and the node of that term.
func TestTermAndFrom(t *testing.T) {
	for name, x := range fitting() {
		got, err := Term(x.q, x.n)
		if err != api.OK || !equal(got, termOf(x.n)) {
			t.Errorf("%s: %v, %d", name, got, err)
		}
		answers(t, name, x.n)(From(x.q, termOf(x.n)))
	}
}

// P6.3, P6.4: Right's error of a node that may not be, and nothing beside it; From answers it of each that has a term by its form.
func TestWrongNodes(t *testing.T) {
	for _, table := range []map[string]judged{wrongLeaves(), wrongInners()} {
		for name, x := range table {
			if got, err := Term(x.q, x.n); err != x.w || !equal(got, api.Term{}) {
				t.Errorf("%s: Term: %d, want %d", name, err, x.w)
			}
			if s, err := Seal(x.q, 7, x.n); err != x.w || s != "" {
				t.Errorf("%s: Seal: %d, want %d", name, err, x.w)
			}
			if told, is := readable(x); is {
				refuses(t, name+": From", told)(From(x.q, termOf(x.n)))
				if s, err := box.Pack(7, termOf(x.n)); err == api.OK {
					refuses(t, name+": Open", told)(Open(x.q, 7, s))
				}
			}
		}
	}
}

// readable is what From must tell of a wrong node's term, if there is one.
func readable(x judged) (api.Errno, bool) {
	if len(x.n.Entries) > 100 || len(x.n.Kids) > 100 {
		return api.ErrMany, x.w != api.ErrQuota
	}
	for _, e := range x.n.Entries {
		for _, v := range e.Versions {
			if v.No < 0 {
				return api.ErrNode, x.w != api.ErrQuota
			}
		}
	}
	for _, k := range x.n.Kids {
		if k.Ref.Seg < 0 {
			return api.ErrNode, x.w != api.ErrQuota
		}
	}
	if x.w != api.ErrQuota && len(x.n.Entries) > 0 && len(x.n.Kids) > 0 {
		return api.ErrNode, true
	}
	if x.n.Leaf && len(x.n.Kids) > 0 || !x.n.Leaf && len(x.n.Entries) > 0 {
		return api.ErrNode, true
	}
	return x.w, true
}

// P6.3: numbers of up to 2^31 - 1 are told by what they are wrong in, greater ones by the form; a key is any word.
func TestFromOfGreatNumbers(t *testing.T) {
	version := func(n uint64) api.Term {
		return rowOf(number(1), rowOf(atom("a"), rowOf(number(n), atom("x"), atom("n"))))
	}
	kids := func(word, seg, off, length uint64) api.Term {
		second := rowOf(atom("b"), key(word), number(seg), number(off), number(length))
		return rowOf(number(2), rowOf(atom("a"), key(9), number(1), number(2), number(3)), second)
	}
	answers(t, "MaxNo", leafOf(secret("a", ver(api.MaxNo, "x", "n"))))(From(example, version(api.MaxNo)))
	refuses(t, "number 0", api.ErrEntry)(From(example, version(0)))
	for n, want := range map[uint64]api.Errno{
		1<<31 - 2: api.ErrEntry, 1<<31 - 1: api.ErrEntry,
		1 << 31: api.ErrNode, 1<<32 - 1: api.ErrNode, 1 << 32: api.ErrNode, 1<<32 + 1: api.ErrNode,
		1<<63 - 1: api.ErrNode, 1 << 63: api.ErrNode, 1<<63 + 1: api.ErrNode, math.MaxUint64: api.ErrNode,
	} {
		refuses(t, "version", want)(From(example, version(n)))
		if want == api.ErrEntry {
			want = api.ErrRef
		}
		refuses(t, "Seg", want)(From(example, kids(8, n, 0, 1)))
		refuses(t, "Off", want)(From(example, kids(8, 0, n, 1)))
		refuses(t, "Len", want)(From(example, kids(8, 0, 0, n)))
	}
	for _, word := range keys {
		answers(t, "key", innerOf(kid("a", 9, 1, 2, 3), kid("b", word, 0, 0, 1)))(From(example, kids(word, 0, 0, 1)))
	}
}

// P6.3, P6.4: a term that is no node's by its form is told as ErrNode, whatever else is wrong in what it tells of.
func TestTermsOfAnotherForm(t *testing.T) {
	for name, x := range formless() {
		for _, q := range []api.Quota{least, example, greatest} {
			refuses(t, name+": From", api.ErrNode)(From(q, x))
		}
		s, err := box.Pack(7, x)
		if err != api.OK {
			t.Errorf("%s: may not be: %d", name, err)
		}
		refuses(t, name+": Open", api.ErrNode)(Open(example, 7, s))
	}
}

// P6.3: term.Right's error comes ahead of the form, and of what Right tells of the node.
func TestFromOfWrongTerms(t *testing.T) {
	deep := rowOf()
	for range 12 {
		deep = rowOf(deep)
	}
	many := rowOf(append([]api.Term{number(1)}, make([]api.Term, 4000)...)...)
	for name, x := range map[string]struct {
		t    api.Term
		want api.Errno
	}{
		"the zero term":            {api.Term{}, api.ErrTerm},
		"a kind that is none":      {rowOf(api.Term{Kind: 6}), api.ErrTerm},
		"too deep":                 {deep, api.ErrDeep},
		"too many":                 {many, api.ErrMany},
		"too deep in a leaf":       {rowOf(number(1), deep), api.ErrDeep},
		"a name that is no atom":   {rowOf(number(1), rowOf(atom(long(4001)), rowOf(number(1), atom(""), atom("")))), api.ErrTerm},
		"a number with bytes":      {rowOf(api.Term{Kind: api.Num, Num: 1, Bytes: "x"}), api.ErrTerm},
		"a row with a number":      {api.Term{Kind: api.Row, Num: 1, List: []api.Term{number(1)}}, api.ErrTerm},
		"an atom with a number":    {rowOf(number(1), rowOf(api.Term{Kind: api.Atom, Num: 1, Bytes: "a"}, rowOf(number(1), atom(""), atom("")))), api.ErrTerm},
		"a key with a list":        {rowOf(number(2), rowOf(atom("a"), api.Term{Kind: api.Key, List: []api.Term{rowOf()}}, number(0), number(0), number(1))), api.ErrTerm},
		"ahead of the kind 3":      {rowOf(number(3), api.Term{}), api.ErrTerm},
		"behind a wrong secret":    {rowOf(number(1), rowOf(atom("")), api.Term{}), api.ErrTerm},
		"an empty box":             {rowOf(number(1), api.Term{Kind: api.Box, Num: 7}), api.ErrTerm},
		"the longest atom may be":  {rowOf(number(1), rowOf(atom(long(4000)), rowOf(number(1), atom(""), atom("")))), api.ErrTooBig},
		"a number with empty list": {rowOf(api.Term{Kind: api.Num, Num: 3, List: []api.Term{}}), api.ErrNode},
	} {
		refuses(t, name, x.want)(From(example, x.t))
	}
	answers(t, "an empty list in a number", leafOf())(From(example, rowOf(api.Term{Kind: api.Num, Num: 1, List: []api.Term{}})))
	answers(t, "an empty list in an atom", leafOf(plain("a")...))(From(example, rowOf(number(1),
		rowOf(api.Term{Kind: api.Atom, Bytes: "a", List: []api.Term{}}, rowOf(number(1), atom(""), atom(""))))))
}

// P6.4: the chapter's bytes.
func TestSealAndOpenOfTheExamples(t *testing.T) {
	empty := "\x04\x07\x05\x01\x01\x01"
	if s, err := Seal(example, 7, leafOf()); err != api.OK || s != empty {
		t.Errorf("the empty leaf: %q, %d", s, err)
	}
	answers(t, "the empty leaf", leafOf())(Open(example, 7, empty))
	refuses(t, "another key", api.ErrKey)(Open(example, 8, empty))
	refuses(t, "the kind 3", api.ErrNode)(Open(example, 7, "\x04\x07\x05\x01\x01\x03"))
	whole := "\x04\x09\x05\x02\x01\x01\x05\x02\x02\x01a\x05\x03\x01\x01\x02\x01x\x02\x01n"
	if s, err := Seal(example, 9, leafOf(secret("a", ver(1, "x", "n")))); err != api.OK || s != whole {
		t.Errorf("the leaf of a: %q, %d", s, err)
	}
	answers(t, "the leaf of a", leafOf(secret("a", ver(1, "x", "n"))))(Open(example, 9, whole))
}

// P6.4, P6.5: what was sealed opens with its key alone; it is the packed term, and no longer than a page may be.
func TestOpenOfSealed(t *testing.T) {
	for name, x := range fitting() {
		for i, word := range keys {
			s, err := Seal(x.q, word, x.n)
			if packed, _ := box.Pack(word, termOf(x.n)); err != api.OK || s != packed {
				t.Errorf("%s: %q, %d, want %q", name, s, err, packed)
			}
			if len(s) > quota.PageBytes(x.q) {
				t.Errorf("%s: %d bytes of %d", name, len(s), quota.PageBytes(x.q))
			}
			answers(t, name, x.n)(Open(x.q, word, s))
			refuses(t, name+", another key", api.ErrKey)(Open(x.q, keys[(i+1)%len(keys)], s))
		}
	}
}

// P6.4: box.Unpack's errors, as they are, ahead of what is wrong in the node.
func TestOpenOfOtherBytes(t *testing.T) {
	sealed, _ := Seal(example, 7, leafOf(plain("a", "b")...))
	for name, x := range map[string]struct {
		s    string
		want api.Errno
	}{
		"no bytes":                 {"", api.ErrShort},
		"a row, no box":            {"\x05\x01\x01\x01", api.ErrBox},
		"a number":                 {"\x01\x01", api.ErrBox},
		"a kind that is none":      {"\x09", api.ErrForm},
		"more behind":              {sealed + "\x01", api.ErrRest},
		"a wrong one, more behind": {"\x04\x07\x05\x01\x01\x03\x00", api.ErrRest},
		"a wrong one, another key": {"\x04\x08\x05\x01\x01\x03", api.ErrKey},
		"a box in a box":           {"\x04\x07\x04\x07\x05\x01\x01\x01", api.ErrNode},
		"a box of a number":        {"\x04\x07\x01\x01", api.ErrNode},
		"an inner node of none":    {"\x04\x07\x05\x01\x01\x02", api.ErrNode},
		"a leaf without versions":  {"\x04\x07\x05\x02\x01\x01\x05\x01\x02\x01a", api.ErrEntry},
		"a leaf without a name":    {"\x04\x07\x05\x02\x01\x01\x05\x01\x02\x00", api.ErrName},
	} {
		refuses(t, name, x.want)(Open(example, 7, x.s))
	}
	for n := range sealed {
		_, want := box.Unpack(7, sealed[:n])
		if want == api.OK {
			t.Fatalf("%d bytes are a term", n)
		}
		refuses(t, "cut short", want)(Open(example, 7, sealed[:n]))
	}
	for i := range sealed {
		for _, b := range []byte{0, 1, 2, 3, 4, 5, 9, 127, 128, 255} {
			spoilt := sealed[:i] + string([]byte{b}) + sealed[i+1:]
			inside, want := box.Unpack(7, spoilt)
			if want != api.OK {
				refuses(t, "spoilt", want)(Open(example, 7, spoilt))
				continue
			}
			want2, err := From(example, inside)
			if got, err2 := Open(example, 7, spoilt); err != err2 || !same(got, want2) {
				t.Errorf("%q: %v, %d, want %v, %d", spoilt, got, err2, want2, err)
			}
		}
	}
}

// P6.5: the longest leaf and the longest inner node of quotas at all edges are no longer than a page may be.
func TestSealedLengths(t *testing.T) {
	for _, name := range []int{1, 2, api.MaxName} {
		for _, value := range []int{0, 1, api.MaxValue} {
			for _, note := range []int{0, 1, api.MaxNote} {
				for versions := 1; versions <= api.MaxVersions; versions++ {
					q := api.Quota{Secrets: 1, Name: name, Value: value, Note: note, Versions: versions, Batch: 1}
					for _, n := range []api.Node{longestLeaf(q), longestInner(q)} {
						s, err := Seal(q, math.MaxUint64, n)
						if err != api.OK || len(s) > quota.PageBytes(q) {
							t.Errorf("%v: %d bytes of %d, %d", q, len(s), quota.PageBytes(q), err)
						}
						answers(t, "the longest", n)(Open(q, math.MaxUint64, s))
					}
				}
			}
		}
	}
}

func longestLeaf(q api.Quota) api.Node {
	n := leafOf()
	for _, first := range []string{"a", "b", "c", "d"} {
		e := secret(first + long(q.Name-1))
		for i := range q.Versions {
			e.Versions = append(e.Versions, ver(api.MaxNo-q.Versions+1+i, long(q.Value), long(q.Note)))
		}
		n.Entries = append(n.Entries, e)
	}
	return n
}

func longestInner(q api.Quota) api.Node {
	n := innerOf()
	for _, first := range []string{"a", "b", "c", "d"} {
		n.Kids = append(n.Kids, kid(first+long(q.Name-1), math.MaxUint64, api.MaxSeg, api.MaxOff, api.MaxLen))
	}
	return n
}

// P6.5: the atoms of a node's term are the texts of its secrets, or its kids' lows.
func TestAtomsOfTerms(t *testing.T) {
	for name, x := range fitting() {
		made, _ := Term(x.q, x.n)
		want := entry.Texts(x.n.Entries...)
		for _, k := range x.n.Kids {
			want = append(want, k.Low)
		}
		if got := term.Atoms(made); !slices.Equal(got, want) {
			t.Errorf("%s: %q, want %q", name, got, want)
		}
	}
}

// R4: no list of an answer, nor its spare room, is the argument's, another list's of it, or another answer's.
func TestAnswersAreNewMemory(t *testing.T) {
	for name, x := range fitting() {
		made, _ := Term(x.q, x.n)
		second, _ := Term(x.q, x.n)
		all := slices.Concat(termPlaces(made), termPlaces(second))
		s, _ := Seal(x.q, 7, x.n)
		for range 2 {
			read, _ := From(x.q, made)
			opened, _ := Open(x.q, 7, s)
			all = slices.Concat(all, places(read), places(opened))
		}
		if shared(places(x.n), all) {
			t.Errorf("%s: two lists share memory", name)
		}
	}
}

// R4: a term that is read stays as it is, and what was read of it stays when it is written over.
func TestTermsStayAsTheyAre(t *testing.T) {
	for name, x := range fitting() {
		made, _ := Term(x.q, x.n)
		room := slices.Concat(made.List, []api.Term{atom("r"), rowOf(atom("s"))})
		given := api.Term{Kind: api.Row, List: room[:len(made.List)]}
		read, _ := From(x.q, given)
		if !equal(given, termOf(x.n)) || !equal(rowOf(room[len(made.List):]...), rowOf(atom("r"), rowOf(atom("s")))) {
			t.Errorf("%s: what was handed in was changed: %v", name, room)
		}
		for _, part := range given.List {
			clear(part.List)
		}
		clear(room)
		if !same(read, x.n) {
			t.Errorf("%s: the node hangs on its term: %v", name, read)
		}
	}
}

// R6: the same is answered whenever it is asked.
func TestAnswersStayTheSame(t *testing.T) {
	for _, name := range slices.Sorted(maps.Keys(fitting())) {
		x := fitting()[name]
		first, _ := Seal(x.q, 7, x.n)
		for range 3 {
			if s, err := Seal(x.q, 7, x.n); err != api.OK || s != first {
				t.Errorf("%s: %q, then %q", name, first, s)
			}
		}
	}
}
