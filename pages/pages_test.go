package pages

import (
	"math"
	"slices"
	"testing"

	"lethe/api"
	"lethe/medium"
	"lethe/node"
	"lethe/power"
	"lethe/quota"
	"lethe/segment"
)

// The chapter's examples, one row behind the other.
func TestExamples(t *testing.T) {
	p := some(t, example, 3, 7)
	r := ref(7, 0, 0, 6)
	writes(t, p, leaf(), r)
	if p.Taken() != 1 || p.Kept() != 1 {
		t.Errorf("Taken, Kept: %d, %d", p.Taken(), p.Kept())
	}

	reads(t, p, r, leaf())
	fails(t, p, ref(8, 0, 0, 6), api.ErrDamage)
	fails(t, p, ref(7, 0, 0, 0), api.ErrRef)
	fails(t, p, ref(7, 0, 1, 6), api.ErrPlace)
	fails(t, p, ref(7, 5, 0, 6), api.ErrSeg)

	rejects(t, p, inner(), api.ErrNode)
	if p.Taken() != 1 {
		t.Errorf("Taken: %d", p.Taken())
	}

	trees(t, p, r, at(0, 0, 6))
	if l := p.Pieces(); !slices.Equal(l, []string{"\x05\x02\x03\x07\x05\x01\x01\x01"}) {
		t.Errorf("Pieces: %q", l)
	}
}

// 'Errors': the numbers of those that there are.
func TestErrors(t *testing.T) {
	l, c, d := newLog(t, 1, 12), newCache(t, 2), newDice(t, 7)
	if _, err := New(api.Quota{}, l, c, d); err != 40 {
		t.Errorf("New of no quota: %d", err)
	}
	if _, err := New(example, nil, c, d); err != 1 {
		t.Errorf("New of no log: %d", err)
	}
	p := made(t, example, l, c, d)
	writes(t, p, leaf(), ref(7, 0, 0, 6))
	fails(t, p, api.Ref{}, 61)
	fails(t, p, ref(7, 1, 0, 6), 120)
	fails(t, p, ref(7, 0, 0, 7), 121)
	fails(t, p, ref(6, 0, 0, 6), 160)
	noTree(t, p, ref(6, 0, 0, 6), 160)
	rejects(t, p, leaf(), 140)
	p.Put(ref(5, 0, 0, 1), inner())
	noTree(t, p, ref(5, 0, 0, 1), 70)
	p.Cut(0)
	p.Begin(0, 0)
	rejects(t, p, leaf(), 110)
}

// P16.1: nil and ErrQuota of a quota that may not be, whatever else is wrong; nil and ErrArg, if one of the others is nil.
func TestNewOfWrongOnes(t *testing.T) {
	l, c, d := newLog(t, 3, 540), newCache(t, 2), newDice(t, 7)
	for name, change := range map[string]func(q *api.Quota){
		"none":                 func(q *api.Quota) { *q = api.Quota{} },
		"no secrets":           func(q *api.Quota) { q.Secrets = 0 },
		"65 secrets":           func(q *api.Quota) { q.Secrets = 65 },
		"no names":             func(q *api.Quota) { q.Name = 0 },
		"names of 17":          func(q *api.Quota) { q.Name = 17 },
		"values below 0":       func(q *api.Quota) { q.Value = -1 },
		"values of 33":         func(q *api.Quota) { q.Value = 33 },
		"notes below 0":        func(q *api.Quota) { q.Note = -1 },
		"notes of 17":          func(q *api.Quota) { q.Note = 17 },
		"no versions":          func(q *api.Quota) { q.Versions = 0 },
		"5 versions":           func(q *api.Quota) { q.Versions = 5 },
		"no batches":           func(q *api.Quota) { q.Batch = 0 },
		"batches of 9":         func(q *api.Quota) { q.Batch = 9 },
		"a cache below 0":      func(q *api.Quota) { q.Cache = -1 },
		"a cache of 33":        func(q *api.Quota) { q.Cache = 33 },
		"as great as can be":   func(q *api.Quota) { q.Secrets = math.MaxInt },
		"as little as can be":  func(q *api.Quota) { q.Note = math.MinInt },
		"more than a word has": func(q *api.Quota) { q.Name = 1<<32 + 2 },
	} {
		q := example
		change(&q)
		if p, err := New(q, l, c, d); p != nil || err != api.ErrQuota {
			t.Errorf("%s: %v, %d", name, p, err)
		}
		if p, err := New(q, nil, nil, nil); p != nil || err != api.ErrQuota {
			t.Errorf("%s, and nothing else: %v, %d", name, p, err)
		}
	}
	for _, q := range []api.Quota{least, example, greatest} {
		for which := range 7 {
			// One or more of the three are there, but never all of them.
			log, kept, draws := l, c, d
			if which&1 == 0 {
				log = nil
			}
			if which&2 == 0 {
				kept = nil
			}
			if which&4 == 0 {
				draws = nil
			}
			if p, err := New(q, log, kept, draws); p != nil || err != api.ErrArg {
				t.Errorf("%v, %d: %v, %d", q, which, p, err)
			}
		}
	}
}

// P16.1: it embeds just those that it was made of; their methods are its own, but for Read and Write, and nothing is done at first.
func TestNewEmbeds(t *testing.T) {
	for _, q := range []api.Quota{least, example, greatest} {
		l, c, d := newLog(t, 3, quota.SegBytes(q)), newCache(t, q.Cache), newDice(t, 7, 8)
		d.Next()
		c.Put(ref(1, 2, 3, 4), leaf())
		place, _ := l.Append("abc")
		p := made(t, q, l, c, d)
		if p.Log != l || p.Cache != c || p.Dice != d || p.Medium != l.Medium || p.Power != l.Power {
			t.Fatal("it is made of others")
		}
		if place != at(0, 0, 3) || p.Taken() != 1 || l.Count() != 1 || c.Kept() != min(1, q.Cache) {
			t.Errorf("%v, Taken %d, Count %d, Kept %d", place, p.Taken(), l.Count(), c.Kept())
		}
		p.Next()
		p.Wipe()
		if got, err := p.Append("de"); got != at(0, 3, 2) || err != api.OK {
			t.Errorf("Append: %v, %d", got, err)
		}
		p.Settle(place)
		p.Cut(5)
		if d.Taken() != 2 || c.Kept() != 0 || l.Live(0) != 3 || l.Left() != 5 || l.Used(0) != 5 {
			t.Errorf("Taken %d, Kept %d, Live %d, Left %d, Used %d", d.Taken(), c.Kept(), l.Live(0), l.Left(), l.Used(0))
		}
	}
}

// P16.1: what others do to the log, the cache and the dice is seen, and two pages of the same ones see one another.
func TestPagesOfTheSame(t *testing.T) {
	l, c, d := newLog(t, 3, quota.SegBytes(example)), newCache(t, 2), newDice(t)
	a, b := made(t, example, l, c, d), made(t, example, l, c, d)
	first := lay(t, a, leaf(of("a", "x")))
	d.Next()
	second := lay(t, b, leaf(of("b", "y")))
	if first.Key != far || second.Key != far+2 || second.Off != first.Len {
		t.Errorf("%v, %v", first, second)
	}
	reads(t, b, first, leaf(of("a", "x")))
	reads(t, a, second, leaf(of("b", "y")))
	hits(t, a, 2, 0)
	c.Wipe()
	reads(t, b, first, leaf(of("a", "x")))
	keeps(t, a, held(first, leaf(of("a", "x")), 0))
	l.Cut(0)
	rejects(t, a, leaf(), api.ErrPower)
	rejects(t, b, leaf(), api.ErrPower)
}

// P16.2: the pages' keys are the draws, in order; their bytes are node.Seal's, one behind the other on the log; the cache keeps the node.
func TestWrite(t *testing.T) {
	for _, list := range [][]uint64{nil, {7}, {0, 300, 1 << 63, 7, math.MaxUint64, 127, 128}, {5, 5, 5}} {
		p := some(t, greatest, 2, list...)
		draws := newDice(t, list...)
		off := 0
		var kept []api.Held
		for i, n := range append(right(), right()...) {
			key := draws.Next()
			bytes := sealed(key, n)
			r := ref(key, 0, off, len(bytes))
			writes(t, p, n, r)
			kept = append(kept, held(r, n, 0))
			keeps(t, p, kept...)
			if s, err := node.Seal(greatest, key, n); s != bytes || err != api.OK {
				t.Errorf("node.Seal: %q, %d, want %q", s, err, bytes)
			}
			if past := slices.Collect(p.Past()); len(past) != i+1 || past[i] != (api.Raw{Seg: 0, At: off, Bytes: bytes}) {
				t.Errorf("%v was written, want %q at %d", past[i:], bytes, off)
			}
			off += len(bytes)
			if seg, used := p.Open(); seg != 0 || used != off || p.Taken() != i+1 || p.Live(0) != 0 {
				t.Errorf("Open %d, %d, Taken %d, Live %d; %d bytes were written", seg, used, p.Taken(), p.Live(0), off)
			}
		}
		hits(t, p, 0, 0)
	}
}

// P16.2: node.Right's error, and nothing is done, whatever else would be refused: nothing is drawn either.
func TestWriteOfWrongNodes(t *testing.T) {
	for name, x := range wrong() {
		if err := node.Right(example, x.node); err != x.err {
			t.Errorf("%s: node.Right: %d, want %d", name, err, x.err)
		}
		for _, on := range []bool{true, false} {
			p := some(t, example, 1, 7, 8)
			lay(t, p, leaf(of("a", "x")))
			if !on {
				p.Cut(0)
			}
			before := all(p)
			rejects(t, p, x.node, x.err)
			stays(t, p, before)
		}
	}
}

// P16.2: by the quota that it was made of a node may be, or not.
func TestWriteByTheQuota(t *testing.T) {
	version := func(no int) api.Version { return api.Version{No: no, Value: long(32), Note: long(16)} }
	n := leaf(secret(long(16), version(1), version(2), version(3), version(api.MaxNo)))
	p := some(t, greatest, 1, 7)
	r := lay(t, p, n)
	p.Wipe()
	reads(t, p, r, n)
	for _, q := range []api.Quota{least, example} {
		rejects(t, some(t, q, 1), n, node.Right(q, n))
	}
	p = some(t, least, 1, 7)
	writes(t, p, leaf(of("a", "")), ref(7, 0, 0, len(sealed(7, leaf(of("a", ""))))))
	rejects(t, p, leaf(of("aa", "")), api.ErrTooBig)
}

// P16.2: Append's error; the draw is gone then, and nothing else has changed.
func TestWriteThatIsNotAppended(t *testing.T) {
	n := leaf(of("a", "x"))
	size := len(sealed(7, n))
	for name, x := range map[string]struct {
		segments, size int
		ahead          func(p *Pages)
		want           api.Errno
	}{
		"longer than a segment":   {2, size - 1, func(*Pages) {}, api.ErrLong},
		"without a free segment":  {1, size, func(p *Pages) { p.Append("a") }, api.ErrSegs},
		"without power":           {2, size, func(p *Pages) { p.Cut(0) }, api.ErrPower},
		"without power, to roll":  {2, size, func(p *Pages) { p.Append("a"); p.Cut(0) }, api.ErrPower},
		"written over past it":    {2, 2 * size, func(p *Pages) { p.Append("ab"); p.Log.Write(0, 0, "x") }, api.ErrPlace},
		"long ahead of the power": {2, size - 1, func(p *Pages) { p.Cut(0) }, api.ErrLong},
	} {
		p := made(t, example, newLog(t, x.segments, x.size), newCache(t, 2), newDice(t, 7, 9, 11, 13))
		p.Put(ref(3, 0, 0, 1), leaf())
		p.Put(ref(4, 0, 0, 1), leaf(of("b", "")))
		x.ahead(p)
		want := all(p)
		for range 3 {
			rejects(t, p, n, x.want)
			want.taken++
			stays(t, p, want)
		}
		if key := p.Next(); key != 13 {
			t.Errorf("%s: the next draw is %d", name, key)
		}
	}
	// The power comes back: the draw that was gone does not.
	p := made(t, example, newLog(t, 2, size), newCache(t, 2), newDice(t, 8, 7))
	p.Cut(0)
	rejects(t, p, n, api.ErrPower)
	p.Restore()
	writes(t, p, n, ref(7, 0, 0, size))
}

// P16.2: pages go from segment to segment, as the log rolls, and to those that are free.
func TestWriteFromSegmentToSegment(t *testing.T) {
	// Each segment has room for two empty leaves.
	p := made(t, example, newLog(t, 3, 13), newCache(t, 2), newDice(t, 1, 2, 3, 4, 5, 6, 7, 8, 9, 10))
	for i := range 6 {
		writes(t, p, leaf(), ref(uint64(i)+1, i/2, i%2*6, 6))
	}
	rejects(t, p, leaf(), api.ErrSegs)
	p.Settle(at(0, 0, 6), at(2, 0, 6))
	writes(t, p, leaf(), ref(8, 1, 0, 6))
	fails(t, p, ref(3, 1, 0, 6), api.ErrDamage)
	reads(t, p, ref(1, 0, 0, 6), leaf())
	reads(t, p, ref(8, 1, 0, 6), leaf())
}

// P16.2: the node goes into the cache, under its reference; if that refuses, it is read from the log.
func TestWriteAndTheCache(t *testing.T) {
	one, two, three := leaf(of("a", "1")), leaf(of("b", "2")), leaf(of("c", "3"))
	p := some(t, example, 3)
	a, b := lay(t, p, one), lay(t, p, two)
	reads(t, p, a, one)
	c := lay(t, p, three)
	keeps(t, p, held(a, one, 0), held(c, three, 0))
	p.Pin(a)
	p.Pin(c)
	d := lay(t, p, two)
	keeps(t, p, held(a, one, 1), held(c, three, 1))
	hits(t, p, 1, 0)
	reads(t, p, d, two)
	reads(t, p, b, two)
	keeps(t, p, held(a, one, 1), held(c, three, 1))
	hits(t, p, 1, 2)

	p = made(t, example, newLog(t, 3, 540), newCache(t, 0), newDice(t))
	a, b = lay(t, p, one), lay(t, p, two)
	keeps(t, p)
	reads(t, p, b, two)
	reads(t, p, a, one)
	hits(t, p, 0, 2)
	keeps(t, p)
}

// P16.2: a page that comes under a reference under which another one was kept stands in its place.
func TestWriteUnderAReferenceThatIsKept(t *testing.T) {
	one, two := leaf(of("a", "1")), leaf(of("b", "2"))
	p := some(t, example, 1, 7, 7)
	r := lay(t, p, one)
	p.Pin(r)
	p.Begin(0, 0)
	writes(t, p, two, r)
	keeps(t, p, held(r, two, 1))
	reads(t, p, r, two)
	p.Wipe()
	reads(t, p, r, two)
}

// P16.3: ErrRef of a reference that may not be, ahead of all else: the cache is not asked.
func TestReadOfNoReference(t *testing.T) {
	p := some(t, example, 2, 7)
	lay(t, p, leaf())
	for _, r := range noRefs() {
		p.Put(r, leaf(of("a", "x")))
		before := all(p)
		fails(t, p, r, api.ErrRef)
		noTree(t, p, r, api.ErrRef)
		stays(t, p, before)
	}
}

// P16.3: references that just may be are looked for.
func TestReadOfReferencesAtTheEdges(t *testing.T) {
	p := some(t, example, 2, 7)
	lay(t, p, leaf())
	for i, r := range edgeRefs() {
		want := api.ErrPlace
		switch {
		case r.Seg > 1:
			want = api.ErrSeg
		case r.Len == 1 && r.Off == 0:
			want = api.ErrDamage
		}
		fails(t, p, r, want)
		hits(t, p, 0, i+1)
	}
	for i, r := range edgeRefs() {
		p.Put(r, leaf(of("a", "x")))
		reads(t, p, r, leaf(of("a", "x")))
		hits(t, p, i+1, len(edgeRefs()))
	}
}

// P16.3: the node that the cache's Get finds, whatever the log has: what was put there by the cache's own Put, too.
func TestReadFromTheCache(t *testing.T) {
	p := some(t, example, 2, 7)
	r := lay(t, p, leaf())
	other := leaf(of("b", "y"))
	p.Put(r, other)
	reads(t, p, r, other)
	for name, x := range wrong() {
		far := ref(9, 1000, 5, 5)
		p.Put(far, x.node)
		n, err := p.Read(far)
		if !same(n, x.node) || err != api.OK {
			t.Errorf("%s: %v, %d", name, n, err)
		}
	}
	// What is found is used, and not put once more: its pins stay.
	p.Wipe()
	p.Put(r, other)
	p.Pin(r)
	p.Put(ref(1, 0, 0, 1), leaf())
	reads(t, p, r, other)
	keeps(t, p, held(ref(1, 0, 0, 1), leaf(), 0), held(r, other, 1))
	// Under a reference that is another in one field alone it is not found.
	for _, x := range []api.Ref{ref(8, 0, 0, 6), ref(7, 0, 0, 5), ref(7, 0, 1, 5)} {
		fails(t, p, x, api.ErrDamage)
	}
	fails(t, p, ref(7, 1, 0, 6), api.ErrPlace)
}

// P16.3: what is written there is read, with or without power, also what is not used any more, or lives not.
func TestReadFromTheLog(t *testing.T) {
	for i, n := range right() {
		p := some(t, example, 2, 300)
		r := lay(t, p, n)
		for _, ahead := range []func(){
			func() {}, func() { p.Settle(placeOf(r)) }, func() { p.Settle() }, func() { p.Begin(1, 0) }, func() { p.Cut(0) },
		} {
			ahead()
			p.Wipe()
			found, missed := p.Hits()
			n2, err := p.Read(r)
			if !same(n2, n) || err != api.OK {
				t.Errorf("node %d: %v, %d", i, n2, err)
			}
			keeps(t, p, held(r, n, 0))
			hits(t, p, found, missed+1)
		}
	}
}

// P16.3: what was read from the log is put into the cache, where that goes which was used longest ago; it is no matter if that refuses.
func TestReadAndTheCache(t *testing.T) {
	one, two, three := leaf(of("a", "1")), leaf(of("b", "2")), leaf(of("c", "3"))
	p := some(t, example, 3)
	a, b, c := lay(t, p, one), lay(t, p, two), lay(t, p, three)
	keeps(t, p, held(b, two, 0), held(c, three, 0))
	reads(t, p, a, one)
	keeps(t, p, held(c, three, 0), held(a, one, 0))
	reads(t, p, c, three)
	reads(t, p, b, two)
	keeps(t, p, held(c, three, 0), held(b, two, 0))
	p.Pin(c)
	reads(t, p, a, one)
	keeps(t, p, held(c, three, 1), held(a, one, 0))
	p.Pin(a)
	reads(t, p, b, two)
	keeps(t, p, held(c, three, 1), held(a, one, 1))
	hits(t, p, 1, 4)
}

// P16.3: the medium's error of a place where nothing, or too little, is written; nothing else has changed but that the cache was asked.
func TestReadOfOtherPlaces(t *testing.T) {
	p := some(t, example, 2, 7, 8)
	lay(t, p, leaf())
	lay(t, p, leaf(of("a", "x")))
	used := p.Used(0)
	for r, want := range map[api.Ref]api.Errno{
		ref(7, 2, 0, 6):               api.ErrSeg,
		ref(7, 3, 0, 6):               api.ErrSeg,
		ref(7, api.MaxSeg, 0, 6):      api.ErrSeg,
		ref(7, 2, api.MaxOff, 1):      api.ErrSeg,
		ref(7, 1, 0, 6):               api.ErrPlace,
		ref(7, 0, used, 1):            api.ErrPlace,
		ref(7, 0, used+1, 1):          api.ErrPlace,
		ref(7, 0, 0, used+1):          api.ErrPlace,
		ref(7, 0, 6, used-5):          api.ErrPlace,
		ref(7, 0, 0, api.MaxLen):      api.ErrPlace,
		ref(7, 0, api.MaxOff, 6):      api.ErrPlace,
		ref(7, 0, 0, used):            api.ErrDamage,
		ref(7, 0, used-1, 1):          api.ErrDamage,
		ref(7, 0, 1, 6):               api.ErrDamage,
		ref(7, 0, 0, 5):               api.ErrDamage,
		ref(7, 0, 0, 7):               api.ErrDamage,
		ref(7, 0, 6, 6):               api.ErrDamage,
		ref(8, 0, 0, 6):               api.ErrDamage,
		ref(0, 0, 0, 6):               api.ErrDamage,
		ref(1<<32+7, 0, 0, 6):         api.ErrDamage,
		ref(math.MaxUint64, 0, 0, 6):  api.ErrDamage,
		ref(7, 0, 6, used-6):          api.ErrDamage,
		ref(8, 0, 6, used-7):          api.ErrDamage,
		ref(1<<63+8, 0, 6, used-6):    api.ErrDamage,
		ref(8+1<<40, 0, 6, used-6):    api.ErrDamage,
		ref(8, 0, 7, used-7):          api.ErrDamage,
		ref(8, 0, 5, used-5):          api.ErrDamage,
		ref(8, 1, 6, used-6):          api.ErrPlace,
		ref(8, api.MaxSeg, 6, used-6): api.ErrSeg,
	} {
		want2 := all(p)
		want2.missed += 2
		fails(t, p, r, want)
		noTree(t, p, r, want)
		stays(t, p, want2)
	}
}

// P16.3: ErrDamage of bytes that are not a page of that key, by node.Open, whatever that says of them.
func TestReadOfDamage(t *testing.T) {
	whole := sealed(7, leaf(of("a", "x"), of("b", "y")))
	bytes := []string{
		"x", "\x05\x01\x01\x01", "\x01\x07", "\x04\x07", "\x04\x07\x05\x00", "\x04\x07\x05\x01\x01\x03", "\x04\x07\x05\x01\x01\x02",
		"\x04\x07\x04\x07\x05\x01\x01\x01", "\x04\x87\x00\x05\x01\x01\x01", "\x04\x07\x05\x01\x01\x01x", whole + "\x00", "\x00" + whole,
	}
	for _, x := range wrong() {
		if len(x.node.Entries)+len(x.node.Kids) < 10 {
			bytes = append(bytes, sealed(7, x.node))
		}
	}
	for n := 1; n < len(whole); n++ {
		bytes = append(bytes, whole[:n], whole[n:])
	}
	for i := range whole {
		for bit := range 8 {
			spoilt := []byte(whole)
			spoilt[i] ^= 1 << bit
			bytes = append(bytes, string(spoilt))
		}
	}
	damaged := 0
	for _, b := range bytes {
		p := some(t, example, 1)
		place, err := p.Append(b)
		if err != api.OK {
			t.Fatalf("Append(%q): %d", b, err)
		}
		r := ref(7, place.Seg, place.Off, place.Len)
		n, err := node.Open(example, 7, b)
		if err == api.OK {
			reads(t, p, r, n)
			continue
		}
		damaged++
		fails(t, p, r, api.ErrDamage)
		keeps(t, p)
	}
	if damaged < 200 {
		t.Errorf("%d rows of bytes alone were damaged", damaged)
	}
}

// P16.3: a page that was sealed by a greater quota than the pages' own is not that page.
func TestReadByTheQuota(t *testing.T) {
	n := leaf(of("aaa", "xxx"))
	l, c, d := newLog(t, 1, quota.SegBytes(greatest)), newCache(t, 2), newDice(t, 7)
	r := lay(t, made(t, greatest, l, c, d), n)
	p := made(t, example, l, c, d)
	reads(t, p, r, n)
	p.Wipe()
	fails(t, p, r, api.ErrDamage)
	keeps(t, p)
}

// R6: pages of the same calls tell the same, and know nothing of others.
func TestPagesApart(t *testing.T) {
	a, b, other := some(t, example, 3, 7, 9), some(t, example, 3, 7, 9), some(t, example, 3)
	for range 3 {
		for _, n := range right() {
			for _, p := range []*Pages{a, b} {
				r := lay(t, p, n)
				p.Read(r)
				p.Settle(placeOf(r))
			}
			stays(t, a, all(b))
		}
	}
	stays(t, other, all(some(t, example, 3)))
	// Two that share the power alone.
	w := power.New()
	var l []*Pages
	for range 2 {
		m, err := medium.New(w, 2, 100)
		if err != api.OK {
			t.Fatal(err)
		}
		l = append(l, made(t, example, segment.New(m), newCache(t, 2), newDice(t, 7)))
	}
	l[0].Cut(1)
	writes(t, l[1], leaf(), ref(7, 0, 0, 6))
	rejects(t, l[0], leaf(), api.ErrPower)
	if l[0].Count() != 0 || l[0].Taken() != 1 || l[0].Writes() != 1 {
		t.Errorf("Count %d, Taken %d, Writes %d", l[0].Count(), l[0].Taken(), l[0].Writes())
	}
}
