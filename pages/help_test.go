package pages

import (
	"maps"
	"math"
	"slices"
	"strings"
	"testing"

	"lethe/api"
	"lethe/cache"
	"lethe/dice"
	"lethe/medium"
	"lethe/power"
	"lethe/quota"
	"lethe/segment"
)

// example is the chapter's; least and greatest are at the edges.
var (
	example  = api.Quota{Secrets: 4, Name: 2, Value: 2, Note: 0, Versions: 1, Batch: 1, Cache: 2}
	least    = api.Quota{Secrets: 1, Name: 1, Versions: 1, Batch: 1}
	greatest = api.Quota{Secrets: 64, Name: 16, Value: 32, Note: 16, Versions: 4, Batch: 8, Cache: 32}
)

// far is behind each list of draws.
const far = 1 << 40

func newLog(t *testing.T, segments, size int) *segment.Log {
	t.Helper()
	m, err := medium.New(power.New(), segments, size)
	if err != api.OK {
		t.Fatalf("a medium of %d segments of %d bytes: %d", segments, size, err)
	}
	return segment.New(m)
}

func newCache(t *testing.T, room int) *cache.Cache {
	t.Helper()
	c, err := cache.New(room)
	if err != api.OK {
		t.Fatalf("a cache of room %d: %d", room, err)
	}
	return c
}

func newDice(t *testing.T, list ...uint64) *dice.Dice {
	t.Helper()
	d, err := dice.New(list)
	if err != api.OK {
		t.Fatalf("dice of %v: %d", list, err)
	}
	return d
}

func made(t *testing.T, q api.Quota, l *segment.Log, c *cache.Cache, d *dice.Dice) *Pages {
	t.Helper()
	p, err := New(q, l, c, d)
	if p == nil || err != api.OK {
		t.Fatalf("New of %v: %v, %d", q, p, err)
	}
	return p
}

// some are pages of a new medium of so many segments, and of a cache, as the quota has them.
func some(t *testing.T, q api.Quota, segments int, list ...uint64) *Pages {
	t.Helper()
	return made(t, q, newLog(t, segments, quota.SegBytes(q)), newCache(t, q.Cache), newDice(t, list...))
}

func long(n int) string { return strings.Repeat("x", n) }

func secret(name string, l ...api.Version) api.Entry { return api.Entry{Name: name, Versions: l} }

// of is a secret of one version.
func of(name, value string) api.Entry { return secret(name, api.Version{No: 1, Value: value}) }

func leaf(l ...api.Entry) api.Node { return api.Node{Leaf: true, Entries: l} }

func inner(l ...api.Kid) api.Node { return api.Node{Kids: l} }

func ref(key uint64, seg, off, n int) api.Ref { return api.Ref{Key: key, Seg: seg, Off: off, Len: n} }

func kid(low string, r api.Ref) api.Kid { return api.Kid{Low: low, Ref: r} }

func at(seg, off, n int) api.Place { return api.Place{Seg: seg, Off: off, Len: n} }

// placeOf is where a reference's page lies.
func placeOf(r api.Ref) api.Place { return at(r.Seg, r.Off, r.Len) }

// right are nodes that may be, by the example and by each greater quota.
func right() []api.Node {
	edge := ref(math.MaxUint64, api.MaxSeg, api.MaxOff, api.MaxLen)
	return []api.Node{
		leaf(),
		leaf(of("a", "x")),
		leaf(of("a", ""), secret("b", api.Version{No: api.MaxNo, Value: "\x00\xff"})),
		leaf(of("a", "1"), of("aa", "2"), of("b", "3"), of("bb", "44")),
		inner(kid("a", ref(9, 1, 2, 3)), kid("b", ref(0, 0, 0, 1))),
		inner(kid("\x00", edge), kid("a", edge), kid("b", ref(7, 0, 0, 6)), kid("\xff\xff", edge)),
	}
}

// judged is a node, and what the example's quota tells of it.
type judged struct {
	node api.Node
	err  api.Errno
}

// wrong may not be.
func wrong() map[string]judged {
	r := ref(9, 1, 2, 3)
	return map[string]judged{
		"without kids":        {api.Node{}, 60},
		"a leaf with kids":    {api.Node{Leaf: true, Kids: []api.Kid{kid("a", r)}}, 60},
		"five secrets":        {leaf(of("a", ""), of("b", ""), of("c", ""), of("d", ""), of("e", "")), 60},
		"falling":             {leaf(of("b", ""), of("a", "")), 60},
		"without a name":      {leaf(of("a", ""), of("", "")), 4},
		"a long name":         {leaf(of("aaa", "")), 5},
		"a long value":        {leaf(of("a", "xxx")), 5},
		"a note":              {leaf(secret("a", api.Version{No: 1, Note: "n"})), 5},
		"without versions":    {leaf(secret("a")), 50},
		"two versions":        {leaf(secret("a", api.Version{No: 1}, api.Version{No: 2})), 50},
		"number 0":            {leaf(secret("a", api.Version{})), 50},
		"one kid":             {inner(kid("a", r)), 60},
		"five kids":           {inner(kid("a", r), kid("b", r), kid("c", r), kid("d", r), kid("e", r)), 60},
		"with secrets":        {api.Node{Entries: []api.Entry{of("a", "")}, Kids: []api.Kid{kid("a", r), kid("b", r)}}, 60},
		"without a low":       {inner(kid("", r), kid("b", r)), 4},
		"a long low":          {inner(kid("a", r), kid("bbb", r)), 5},
		"a wrong reference":   {inner(kid("a", r), kid("b", api.Ref{})), 61},
		"lows that fall":      {inner(kid("b", r), kid("a", r)), 60},
		"very many kids":      {inner(make([]api.Kid, 10000)...), 60},
		"very many secrets":   {leaf(make([]api.Entry, 10000)...), 60},
		"two wrong things":    {leaf(of("aaa", "xxx"), of("", "")), 5},
		"kids ahead of names": {api.Node{Leaf: true, Entries: []api.Entry{of("", "")}, Kids: []api.Kid{kid("a", r)}}, 60},
	}
}

// noRefs may not be, whatever lies there; edgeRefs just may.
func noRefs() []api.Ref {
	return []api.Ref{
		{}, {Key: 7}, ref(7, 0, 0, 0), ref(7, 0, 0, -1), ref(7, 0, 0, 1<<20+1), ref(7, -1, 0, 6), ref(7, 1<<20+1, 0, 6), ref(7, 0, -1, 6), ref(7, 0, 1<<27+1, 6),
		ref(7, math.MinInt, 0, 6), ref(7, math.MaxInt, 0, 6), ref(7, 0, math.MinInt, 6), ref(7, 0, math.MaxInt, 6), ref(7, 0, 0, math.MinInt), ref(7, 0, 0, math.MaxInt),
		ref(7, 1<<32, 0, 6), ref(7, 0, 1<<32, 6), ref(7, 0, 0, 1<<32+6), ref(math.MaxUint64, math.MaxInt, math.MaxInt, math.MaxInt),
	}
}

func edgeRefs() []api.Ref {
	return []api.Ref{ref(0, 0, 0, 1), ref(math.MaxUint64, 1<<20, 1<<27, 1<<20), ref(7, 0, 0, 1<<20), ref(7, 0, 1<<27, 1), ref(7, 1<<20, 0, 1)}
}

func same(a, b api.Node) bool {
	return a.Leaf == b.Leaf && slices.EqualFunc(a.Entries, b.Entries, sameEntry) && slices.Equal(a.Kids, b.Kids)
}

func sameEntry(a, b api.Entry) bool {
	return a.Name == b.Name && slices.Equal(a.Versions, b.Versions)
}

func sameHeld(a, b api.Held) bool {
	return a.Ref == b.Ref && a.Pins == b.Pins && same(a.Node, b.Node)
}

// writes, rejects, reads and fails do a call that must be answered so.
func writes(t *testing.T, p *Pages, n api.Node, want api.Ref) {
	t.Helper()
	if r, err := p.Write(n); r != want || err != api.OK {
		t.Fatalf("Write(%v): %v, %d, want %v", n, r, err, want)
	}
}

func rejects(t *testing.T, p *Pages, n api.Node, want api.Errno) {
	t.Helper()
	if r, err := p.Write(n); r != (api.Ref{}) || err != want {
		t.Fatalf("Write: %v, %d, want %d", r, err, want)
	}
}

func reads(t *testing.T, p *Pages, r api.Ref, want api.Node) {
	t.Helper()
	if n, err := p.Read(r); !same(n, want) || err != api.OK {
		t.Fatalf("Read(%v): %v, %d, want %v", r, n, err, want)
	}
}

func fails(t *testing.T, p *Pages, r api.Ref, want api.Errno) {
	t.Helper()
	if n, err := p.Read(r); !same(n, api.Node{}) || err != want {
		t.Fatalf("Read(%v): %v, %d, want %d", r, n, err, want)
	}
}

// trees and noTree ask for a tree's places.
func trees(t *testing.T, p *Pages, root api.Ref, want ...api.Place) {
	t.Helper()
	if l, err := p.Tree(root); !slices.Equal(l, want) || err != api.OK {
		t.Fatalf("Tree(%v): %v, %d, want %v", root, l, err, want)
	}
}

func noTree(t *testing.T, p *Pages, root api.Ref, want api.Errno) {
	t.Helper()
	if l, err := p.Tree(root); len(l) > 0 || err != want {
		t.Fatalf("Tree(%v): %v, %d, want %d", root, l, err, want)
	}
}

// lay writes a node that may be.
func lay(t *testing.T, p *Pages, n api.Node) api.Ref {
	t.Helper()
	r, err := p.Write(n)
	if err != api.OK {
		t.Fatalf("Write(%v): %d", n, err)
	}
	return r
}

// told is all that pages tell, by what they were made of too.
type told struct {
	open, used    int
	free, sealed  []int
	lives         []int    // of each segment
	written       []string // likewise
	past          []api.Raw
	on            bool
	left          int
	taken         int
	found, missed int
	holds         []api.Held
	pieces        []string
}

// device is what pages are made of.
type device struct {
	log   *segment.Log
	cache *cache.Cache
	dice  *dice.Dice
}

func (d device) told(pieces []string) told {
	x := told{
		free: d.log.Free(), sealed: d.log.Sealed(), past: slices.Collect(d.log.Past()),
		on: d.log.On(), left: d.log.Left(), taken: d.dice.Taken(), holds: d.cache.Holds(), pieces: pieces,
	}
	x.open, x.used = d.log.Open()
	x.found, x.missed = d.cache.Hits()
	for seg := range d.log.Segments() {
		s, _ := d.log.Read(seg, 0, d.log.Used(seg))
		x.written = append(x.written, s)
		x.lives = append(x.lives, d.log.Live(seg))
	}
	return x
}

func all(p *Pages) told { return device{p.Log, p.Cache, p.Dice}.told(p.Pieces()) }

func (x told) is(y told) bool {
	return x.open == y.open && x.used == y.used && slices.Equal(x.free, y.free) && slices.Equal(x.sealed, y.sealed) &&
		slices.Equal(x.lives, y.lives) && slices.Equal(x.written, y.written) && slices.Equal(x.past, y.past) &&
		x.on == y.on && x.left == y.left && x.taken == y.taken && x.found == y.found && x.missed == y.missed &&
		slices.EqualFunc(x.holds, y.holds, sameHeld) && slices.Equal(x.pieces, y.pieces)
}

// stays holds all that pages tell against what they must, twice: asking changes nothing.
func stays(t *testing.T, p *Pages, want told) {
	t.Helper()
	for range 2 {
		if got := all(p); !got.is(want) {
			t.Fatalf("%+v, want %+v", got, want)
		}
	}
}

// keeps holds what the cache keeps against what it must.
func keeps(t *testing.T, p *Pages, want ...api.Held) {
	t.Helper()
	if got := p.Holds(); !slices.EqualFunc(got, want, sameHeld) || p.Kept() != len(want) {
		t.Fatalf("%v, want %v", got, want)
	}
}

func held(r api.Ref, n api.Node, pins int) api.Held { return api.Held{Ref: r, Node: n, Pins: pins} }

// hits holds how often Get found one, and how often not, against what it must.
func hits(t *testing.T, p *Pages, found, missed int) {
	t.Helper()
	if f, m := p.Hits(); f != found || m != missed {
		t.Fatalf("Hits: %d, %d, want %d, %d", f, m, found, missed)
	}
}

// sevens is a number in sevens, by chapter 2's words.
func sevens(n uint64) string {
	var b []byte
	for ; n > 127; n /= 128 {
		b = append(b, byte(n%128+128))
	}
	return string(append(b, byte(n)))
}

func number(n int) string { return "\x01" + sevens(uint64(n)) }

func atom(s string) string { return "\x02" + sevens(uint64(len(s))) + s }

func row(terms ...string) string {
	return "\x05" + sevens(uint64(len(terms))) + strings.Join(terms, "")
}

// bytesOf are the bytes of a node's term, by chapter 6's words.
func bytesOf(n api.Node) string {
	terms := []string{number(2)}
	if n.Leaf {
		terms = []string{number(1)}
	}
	for _, e := range n.Entries {
		one := []string{atom(e.Name)}
		for _, v := range e.Versions {
			one = append(one, row(number(v.No), atom(v.Value), atom(v.Note)))
		}
		terms = append(terms, row(one...))
	}
	for _, k := range n.Kids {
		r := k.Ref
		terms = append(terms, row(atom(k.Low), "\x03"+sevens(r.Key), number(r.Seg), number(r.Off), number(r.Len)))
	}
	return row(terms...)
}

// sealed are the bytes of a page, piece those of a thief's piece of memory.
func sealed(key uint64, n api.Node) string { return "\x04" + sevens(key) + bytesOf(n) }

func piece(key uint64, n api.Node) string { return row("\x03"+sevens(key), bytesOf(n)) }

// plain is the chapter's words, one by one, on devices of its own: of each node it knows what is told of it, and its bytes.
type plain struct {
	device
	known []judged
}

// known are the right nodes, and those of the wrong ones that are no longer than need be, always in the same order.
func known() []judged {
	var l []judged
	for _, n := range right() {
		l = append(l, judged{node: n})
	}
	table := wrong()
	for _, name := range slices.Sorted(maps.Keys(table)) {
		if n := table[name].node; len(n.Entries)+len(n.Kids) < 10 {
			l = append(l, table[name])
		}
	}
	return slices.Clip(l)
}

func (m *plain) judge(n api.Node) api.Errno {
	at := slices.IndexFunc(m.known, func(x judged) bool { return same(x.node, n) })
	return m.known[at].err
}

func (m *plain) write(n api.Node) (api.Ref, api.Errno) {
	if err := m.judge(n); err != 0 {
		return api.Ref{}, err
	}
	key := m.dice.Next()
	place, err := m.log.Append(sealed(key, n))
	if err != 0 {
		return api.Ref{}, err
	}
	r := ref(key, place.Seg, place.Off, place.Len)
	m.cache.Put(r, n)
	return r, 0
}

func (m *plain) read(r api.Ref) (api.Node, api.Errno) {
	if r.Seg < 0 || r.Seg > 1048576 || r.Off < 0 || r.Off > 134217728 || r.Len < 1 || r.Len > 1048576 {
		return api.Node{}, 61
	}
	if n, ok := m.cache.Get(r); ok {
		return n, 0
	}
	b, err := m.log.Read(r.Seg, r.Off, r.Len)
	if err != 0 {
		return api.Node{}, err
	}
	for _, x := range m.known {
		if x.err == 0 && sealed(r.Key, x.node) == b {
			m.cache.Put(r, x.node)
			return x.node, 0
		}
	}
	return api.Node{}, 160
}

func (m *plain) tree(r api.Ref, deep int) ([]api.Place, api.Errno) {
	if deep > 8 {
		return nil, 70
	}
	n, err := m.read(r)
	if err != 0 {
		return nil, err
	}
	l := []api.Place{placeOf(r)}
	if n.Leaf {
		return l, 0
	}
	if len(n.Kids) == 0 {
		return nil, 70
	}
	for _, k := range n.Kids {
		below, err := m.tree(k.Ref, deep+1)
		if err != 0 {
			return nil, err
		}
		l = append(l, below...)
	}
	return l, 0
}

func (m *plain) pieces() []string {
	var l []string
	for _, h := range m.cache.Holds() {
		if m.judge(h.Node) == 0 {
			l = append(l, piece(h.Ref.Key, h.Node))
		}
	}
	return l
}
