package book

import (
	"math"
	"slices"
	"testing"

	"lethe/api"
)

// P9.1: a book without secrets of each quota that may be; nil of one that may not.
func TestNew(t *testing.T) {
	for _, q := range []api.Quota{q, least, greatest} {
		b, err := New(q)
		if b == nil || err != api.OK {
			t.Fatalf("%v: %v, %d", q, b, err)
		}
		holds(t, b, nil)
		if e, is := b.Get("a"); is || !same(e, api.Entry{}) {
			t.Errorf("Get: %v, %v", e, is)
		}
	}
	for name, spoil := range map[string]func(q *api.Quota){
		"nothing":       func(q *api.Quota) { *q = api.Quota{} },
		"no secrets":    func(q *api.Quota) { q.Secrets = 0 },
		"many secrets":  func(q *api.Quota) { q.Secrets = 65 },
		"no name":       func(q *api.Quota) { q.Name = 0 },
		"Name":          func(q *api.Quota) { q.Name = 17 },
		"Value":         func(q *api.Quota) { q.Value = -1 },
		"Note":          func(q *api.Quota) { q.Note = 17 },
		"no versions":   func(q *api.Quota) { q.Versions = 0 },
		"many versions": func(q *api.Quota) { q.Versions = 5 },
		"no batch":      func(q *api.Quota) { q.Batch = 0 },
		"Batch":         func(q *api.Quota) { q.Batch = math.MaxInt },
		"Cache":         func(q *api.Quota) { q.Cache = 33 },
	} {
		q := q
		spoil(&q)
		if b, err := New(q); b != nil || err != api.ErrQuota {
			t.Errorf("%s: %v, %d", name, b, err)
		}
	}
}

// The chapter's examples, one behind the other.
func TestExamples(t *testing.T) {
	b := made(t, q)
	played(t, b, put("a", "x"), put("b", "y"))
	holds(t, b, nil, secret("a", 1, "x"), secret("b", 1, "y"))
	refused(t, b, api.ErrFull, 0, put("c", "z"))

	played(t, b, del("a"), put("c", "z"))
	holds(t, b, []string{"x"}, secret("b", 1, "y"), secret("c", 1, "z"))

	played(t, b, put("b", "1"), put("b", "2"))
	holds(t, b, []string{"x", "y"}, secret("b", 2, "1", "2"), secret("c", 1, "z"))

	played(t, b, over("b", "x"))
	holds(t, b, []string{"1", "2", "y"}, secret("b", 4, "x"), secret("c", 1, "z"))

	refused(t, b, api.ErrBatch, -1)
	refused(t, b, api.ErrBatch, -1, put("b", "q"), put("b", "q"), put("b", "q"), put("b", "q"))
	refused(t, b, api.ErrNone, 1, put("b", "q"), del("x"))
	refused(t, b, api.ErrTooBig, 0, put("abcd", "v"))
	refused(t, b, api.ErrTooBig, 0, put("b", "vvv"))
	refused(t, b, api.ErrOp, 0, api.Op{Kind: 9})
}

// P9.2: no calls, and more than q.Batch, whatever they are; just q.Batch may be.
func TestBatchesOfAnyLength(t *testing.T) {
	for n := 1; n <= api.MaxBatch; n++ {
		q := greatest
		q.Batch = n
		b := made(t, q)
		refused(t, b, api.ErrBatch, -1)
		refused(t, b, api.ErrBatch, -1, []api.Op{}...)
		for _, o := range []api.Op{put("a", "x"), {}, {Kind: 9}, del("no")} {
			refused(t, b, api.ErrBatch, -1, slices.Repeat([]api.Op{o}, n+1)...)
			refused(t, b, api.ErrBatch, -1, slices.Repeat([]api.Op{o}, 1000)...)
		}
		played(t, b, slices.Repeat([]api.Op{over("a", "x")}, n)...)
		holds(t, b, nil, secret("a", n, "x"))
	}
}

// P9.2: what a call may not be, at the edges too, and the first of several errors.
func TestCallsThatMayNotBe(t *testing.T) {
	full := []api.Op{put("a", "x"), put("b", "y")}
	for name, x := range map[string]struct {
		o    api.Op
		want api.Errno
	}{
		"no kind":                         {api.Op{Name: "a"}, api.ErrOp},
		"a kind behind the last one":      {api.Op{Kind: 4, Name: "a"}, api.ErrOp},
		"a kind below all":                {api.Op{Kind: -1, Name: "a"}, api.ErrOp},
		"the least kind of all":           {api.Op{Kind: math.MinInt, Name: "a"}, api.ErrOp},
		"the greatest kind of all":        {api.Op{Kind: math.MaxInt, Name: "a"}, api.ErrOp},
		"a kind that is 1 in 32 bits":     {api.Op{Kind: 1 + 1<<32, Name: "a"}, api.ErrOp},
		"no kind, and nothing else right": {api.Op{Name: long(4), Value: long(3), Note: long(2)}, api.ErrOp},
		"nothing":                         {api.Op{}, api.ErrOp},

		"Put of no name":                       {put("", "x"), api.ErrName},
		"Over of no name":                      {over("", "x"), api.ErrName},
		"Delete of no name":                    {del(""), api.ErrName},
		"Put of no name, a long value":         {put("", long(3)), api.ErrName},
		"Over of no name, a long note":         {noted(over("", ""), long(2)), api.ErrName},
		"Put of a long name":                   {put(long(4), "x"), api.ErrTooBig},
		"Over of a long name":                  {over(long(4), "x"), api.ErrTooBig},
		"Delete of a long name":                {del(long(4)), api.ErrTooBig},
		"Put of a very long name":              {put(long(5000), "x"), api.ErrTooBig},
		"Put of a long value":                  {put("a", long(3)), api.ErrTooBig},
		"Over of a long value":                 {over("a", long(3)), api.ErrTooBig},
		"Put of a long note":                   {noted(put("a", "x"), long(2)), api.ErrTooBig},
		"Over of a long note":                  {noted(over("a", "x"), long(2)), api.ErrTooBig},
		"Put of a long value, no room":         {put("c", long(3)), api.ErrTooBig},
		"Over of a long note, no room":         {noted(over("c", ""), long(2)), api.ErrTooBig},
		"Delete of none":                       {del("c"), api.ErrNone},
		"Delete of a beginning":                {del("aa"), api.ErrNone},
		"Delete of none, a long value":         {api.Op{Kind: api.OpDelete, Name: "c", Value: long(3), Note: long(2)}, api.ErrNone},
		"Put of one more":                      {put("c", "x"), api.ErrFull},
		"Over of one more":                     {over("c", "x"), api.ErrFull},
		"Put of one more, all as long as may":  {noted(put("abc", "xy"), "n"), api.ErrFull},
		"Over of one more, all as long as may": {noted(over("abc", "xy"), "n"), api.ErrFull},
	} {
		b := made(t, q, full...)
		t.Run(name, func(t *testing.T) {
			refused(t, b, x.want, 0, x.o)
			refused(t, b, x.want, 1, put("a", "y"), x.o, api.Op{})
			refused(t, b, x.want, 2, put("a", "y"), over("b", "z"), x.o)
		})
	}
}

// P9.2, P9.3: what may be just so: texts as long as may be, and as short; an OpDelete's Value and Note are not looked at.
func TestCallsThatMayJustBe(t *testing.T) {
	b := made(t, q)
	played(t, b, noted(put("abc", "xy"), "n"))
	holds(t, b, nil, api.Entry{Name: "abc", Versions: []api.Version{{No: 1, Value: "xy", Note: "n"}}})
	played(t, b, put("abc", ""))
	played(t, b, api.Op{Kind: api.OpDelete, Name: "abc", Value: long(3000), Note: long(2000)})
	holds(t, b, []string{"", "xy"})

	b = made(t, least)
	refused(t, b, api.ErrTooBig, 0, put("a", "x"))
	refused(t, b, api.ErrTooBig, 0, noted(put("a", ""), "n"))
	played(t, b, put("a", ""))
	refused(t, b, api.ErrFull, 0, put("b", ""))
	played(t, b, over("a", ""))
	holds(t, b, nil, secret("a", 2, ""))

	b = made(t, greatest)
	played(t, b, noted(over(long(16), long(32)), long(16)))
	holds(t, b, nil, api.Entry{Name: long(16), Versions: []api.Version{{No: 1, Value: long(32), Note: long(16)}}})
}

// P9.2: each call is judged as if those ahead of it had been played.
func TestCallsBehindOthers(t *testing.T) {
	b := made(t, q, put("a", "x"))
	refused(t, b, api.ErrFull, 1, put("b", "y"), put("c", "z"))
	refused(t, b, api.ErrNone, 1, del("a"), del("a"))
	refused(t, b, api.ErrFull, 2, put("b", "y"), put("a", "y"), over("c", ""))
	refused(t, b, api.ErrNone, 2, put("b", "y"), del("b"), del("b"))
	played(t, b, put("b", "y"), del("b"))
	holds(t, b, []string{"y"}, secret("a", 1, "x"))
	played(t, b, put("b", "y"), del("a"), put("c", "z"))
	holds(t, b, []string{"x"}, secret("b", 1, "y"), secret("c", 1, "z"))
	played(t, b, del("b"), del("c"), put("b", "w"))
	holds(t, b, []string{"x", "y", "z"}, secret("b", 1, "w"))
}

// P9.2: entry.Put's and entry.Over's error, behind the greatest number; anew it begins from 1 on.
func TestBehindTheGreatestNumber(t *testing.T) {
	b := made(t, q, put("b", "y"))
	last := secret("a", api.MaxNo-1, "x")
	b.secrets["a"] = last
	for _, o := range []api.Op{put("a", "z"), over("a", "z")} {
		refused(t, b, api.ErrLong, 2, del("b"), o, o)
		c := b.Copy()
		played(t, c, o)
		for _, o := range []api.Op{put("a", "w"), over("a", "")} {
			refused(t, c, api.ErrLong, 0, o)
			refused(t, c, api.ErrTooBig, 0, api.Op{Kind: o.Kind, Name: "a", Value: long(3)})
			refused(t, c, api.ErrFull, 0, put("c", ""))
		}
		played(t, c, del("a"), put("a", "w"))
		holds(t, c, []string{"z"}, secret("a", 1, "w"), secret("b", 1, "y"))
	}
	holds(t, b, nil, last, secret("b", 1, "y"))
}

// P9.3: the versions of a secret come and drop by entry.Put and entry.Over, and go all together.
func TestPlay(t *testing.T) {
	b := made(t, q)
	played(t, b, put("a", "1"))
	played(t, b, put("a", "2"))
	holds(t, b, nil, secret("a", 1, "1", "2"))
	played(t, b, put("a", "3"))
	holds(t, b, []string{"1"}, secret("a", 2, "2", "3"))
	played(t, b, over("a", "4"))
	holds(t, b, []string{"1", "2", "3"}, secret("a", 4, "4"))
	played(t, b, put("a", "5"), over("b", "6"))
	holds(t, b, []string{"1", "2", "3"}, secret("a", 4, "4", "5"), secret("b", 1, "6"))
	played(t, b, del("a"))
	holds(t, b, []string{"1", "2", "3", "4", "5"}, secret("b", 1, "6"))
	played(t, b, put("a", "7"))
	holds(t, b, []string{"1", "2", "3", "4", "5"}, secret("a", 1, "7"), secret("b", 1, "6"))
}

// P9.3: with any one call refused of a batch, at any place, nothing of it is played, nor are its values told as gone.
func TestAllOrNothing(t *testing.T) {
	ops := []api.Op{put("a", "1"), over("b", "2"), del("a"), put("c", "3"), put("b", "4"), del("b"), put("d", "5")}
	for at := range ops {
		for _, wrong := range []api.Op{{}, put("", ""), del("no"), put(long(17), "")} {
			b := made(t, greatest, put("a", "x"), put("b", "y"))
			err, place := b.Play(slices.Insert(slices.Clone(ops), at, wrong)...)
			if err == api.OK || place != at {
				t.Errorf("%v at %d: %d at %d", wrong, at, err, place)
			}
			holds(t, b, nil, secret("a", 1, "x"), secret("b", 1, "y"))
			played(t, b, del("a"), del("b"))
			holds(t, b, []string{"x", "y"})
		}
	}
}

// P9.4: a secret of just that name; of one that is not there nothing.
func TestGet(t *testing.T) {
	b := made(t, greatest, put("ab", "x"), put("b", "y"), put("\xff\x00", ""), del("b"))
	for _, name := range []string{"ab", "\xff\x00"} {
		if e, is := b.Get(name); !is || e.Name != name || len(e.Versions) != 1 {
			t.Errorf("%q: %v, %v", name, e, is)
		}
	}
	for _, name := range []string{"", "a", "abc", "b", "x", "AB", "\xff", "\xff\x00\x00", long(5000)} {
		if e, is := b.Get(name); is || !same(e, api.Entry{}) {
			t.Errorf("%q: %v, %v", name, e, is)
		}
	}
}

// P9.4: names that begin with one of the prefixes, each once, byte by byte in order.
func TestNames(t *testing.T) {
	var ops []api.Op
	rising := []string{"\x00", "A", "a", "a\x00", "aa", "ab", "b", "ba", "é", "\xfe", "\xff", "\xff\xff"}
	for _, name := range rising {
		ops = append(ops, put(name, ""))
	}
	slices.Reverse(ops)
	b := made(t, greatest, ops...)
	for _, x := range []struct{ prefixes, want []string }{
		{nil, rising},
		{[]string{}, rising},
		{[]string{""}, rising},
		{[]string{"zz", ""}, rising},
		{[]string{"a"}, []string{"a", "a\x00", "aa", "ab"}},
		{[]string{"a", "a"}, []string{"a", "a\x00", "aa", "ab"}},
		{[]string{"ab", "a", "aa"}, []string{"a", "a\x00", "aa", "ab"}},
		{[]string{"b", "aa"}, []string{"aa", "b", "ba"}},
		{[]string{"\xff", "\x00"}, []string{"\x00", "\xff", "\xff\xff"}},
		{[]string{"\xc3"}, []string{"é"}},
		{[]string{"abc"}, nil},
		{[]string{"B", long(5000)}, nil},
		{[]string{"\xff\xff\xff"}, nil},
	} {
		if l := b.Names(x.prefixes...); !slices.Equal(l, x.want) {
			t.Errorf("%q: %q, want %q", x.prefixes, l, x.want)
		}
	}
	if l := made(t, q).Names("", "a"); len(l) != 0 {
		t.Errorf("of a book without secrets: %q", l)
	}
}

// P9.4: all secrets, by rising names, whatever order they came in.
func TestAll(t *testing.T) {
	b := made(t, greatest, put("b", "1"), put("c", "2"), put("a", "3"), put("b", "4"), put("ab", "5"), del("c"))
	holds(t, b, []string{"2"}, secret("a", 1, "3"), secret("ab", 1, "5"), secret("b", 1, "1", "4"))
}

// P9.5: a value that was put, and is no value, note or name of any secret now.
func TestGone(t *testing.T) {
	for name, x := range map[string]struct {
		ops  []api.Op
		want []string
	}{
		"nothing was put":         {nil, nil},
		"it stands":               {[]api.Op{put("a", "x")}, nil},
		"it went with its secret": {[]api.Op{put("a", "x"), del("a")}, []string{"x"}},
		"it dropped":              {[]api.Op{put("a", "x"), put("a", "y"), put("a", "z")}, []string{"x"}},
		"it was put over":         {[]api.Op{put("a", "x"), put("a", "y"), over("a", "z")}, []string{"x", "y"}},
		"the empty value":         {[]api.Op{noted(put("a", ""), "n"), del("a")}, []string{""}},
		"the empty one is a note": {[]api.Op{put("a", ""), over("a", "x")}, nil},
		"once, though put often":  {[]api.Op{put("a", "x"), put("b", "x"), put("a", "x"), del("a"), del("b")}, []string{"x"}},
		"another secret has it":   {[]api.Op{put("a", "x"), put("b", "x"), del("a")}, nil},
		"another version has it":  {[]api.Op{put("a", "x"), put("a", "y"), put("a", "x")}, nil},
		"a note is it":            {[]api.Op{put("a", "x"), noted(put("b", "y"), "x"), del("a")}, nil},
		"a name is it":            {[]api.Op{put("a", "b"), put("b", "y"), del("a")}, nil},
		"its own name is it":      {[]api.Op{put("a", "a"), over("a", "y")}, nil},
		"it came again":           {[]api.Op{put("a", "x"), del("a"), put("b", "x")}, nil},
		"it came and went again":  {[]api.Op{put("a", "x"), del("a"), put("b", "x"), del("b")}, []string{"x"}},
		"a name came and went":    {[]api.Op{put("a", "b"), del("a"), put("b", "y"), del("b")}, []string{"b", "y"}},
		"a note is no value":      {[]api.Op{noted(put("a", "x"), "n"), del("a")}, []string{"x"}},
		"a name is no value":      {[]api.Op{put("n", "x"), del("n")}, []string{"x"}},
		"a Delete puts nothing":   {[]api.Op{put("a", "x"), {Kind: api.OpDelete, Name: "a", Value: "y", Note: "n"}}, []string{"x"}},
		"a beginning stands":      {[]api.Op{put("a", "x"), put("b", "xx"), del("a")}, []string{"x"}},
		"in order": {[]api.Op{put("a", "b"), over("a", "\xff"), over("a", "aa"), over("a", "\x00"), over("a", "c"), over("a", "é"), over("a", "")},
			[]string{"\x00", "aa", "b", "c", "é", "\xff"}},
	} {
		b := made(t, q, x.ops...)
		if l := b.Gone(); !slices.Equal(l, x.want) {
			t.Errorf("%s: %q, want %q", name, l, x.want)
		}
	}
}

// P9.5: a value that came and went in one batch is gone, too; those of a batch that was refused never were.
func TestGoneOfBatches(t *testing.T) {
	b := made(t, q)
	played(t, b, put("a", "x"), over("a", "y"), put("b", "z"))
	holds(t, b, []string{"x"}, secret("a", 2, "y"), secret("b", 1, "z"))
	played(t, b, over("a", "u"), over("a", "v"), over("a", "y"))
	holds(t, b, []string{"u", "v", "x"}, secret("a", 5, "y"), secret("b", 1, "z"))
	refused(t, b, api.ErrFull, 2, over("a", "w"), over("a", "y"), put("c", "t"))
	if err, at := b.Judge(over("a", "p"), over("a", "q")); err != api.OK || at != 0 {
		t.Errorf("Judge: %d at %d", err, at)
	}
	played(t, b, del("a"), del("b"))
	holds(t, b, []string{"u", "v", "x", "y", "z"})
}
