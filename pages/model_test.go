package pages

import (
	"math/rand/v2"
	"slices"
	"testing"

	"lethe/api"
)

// call is one on pages, and on the chapter's words; false, if these answer otherwise.
type call func(p *Pages, m *plain) bool

func writing(n api.Node) call {
	return func(p *Pages, m *plain) bool {
		r, err := p.Write(n)
		s, want := m.write(n)
		return r == s && err == want
	}
}

func reading(r api.Ref) call {
	return func(p *Pages, m *plain) bool {
		n, err := p.Read(r)
		x, want := m.read(r)
		return same(n, x) && err == want
	}
}

func treeing(r api.Ref) call {
	return func(p *Pages, m *plain) bool {
		l, err := p.Tree(r)
		x, want := m.tree(r, 1)
		return slices.Equal(l, x) && err == want
	}
}

// on is one that is done on what both were made of.
func on(done func(d device)) call {
	return func(p *Pages, m *plain) bool {
		done(device{p.Log, p.Cache, p.Dice})
		done(m.device)
		return true
	}
}

// follows holds all that is told against the chapter's words.
func follows(t *testing.T, p *Pages, m *plain) {
	t.Helper()
	if got, want := all(p), m.told(m.pieces()); !got.is(want) {
		t.Fatalf("%+v, want %+v", got, want)
	}
}

// pair are pages, and the chapter's words, of as many segments and as much room, and of the same draws.
func pair(t *testing.T, nodes []judged, segments, size, room int, draws ...uint64) (*Pages, *plain) {
	t.Helper()
	p := made(t, example, newLog(t, segments, size), newCache(t, room), newDice(t, draws...))
	return p, &plain{device{newLog(t, segments, size), newCache(t, room), newDice(t, draws...)}, nodes}
}

// P16.2 to P16.5: all short rows of calls, on a log and a cache so small that most of them matter.
func TestAllShortRows(t *testing.T) {
	first, second := ref(7, 0, 0, 6), ref(8, 1, 0, 6)
	top := inner(kid("a", ref(9, 1, 2, 3)), kid("b", ref(0, 0, 0, 1)))
	calls := []call{
		writing(leaf()), writing(leaf(of("a", "x"))), writing(api.Node{}),
		reading(first), reading(second), reading(ref(8, 0, 0, 6)),
		treeing(first), treeing(second),
		on(func(d device) { d.cache.Wipe() }), on(func(d device) { d.cache.Pin(first) }),
		on(func(d device) { d.cache.Put(second, top) }), on(func(d device) { d.cache.Put(ref(9, 1, 2, 3), api.Node{}) }),
		on(func(d device) { d.log.Write(0, 0, sealed(8, leaf())) }),
		on(func(d device) { d.log.Settle() }), on(func(d device) { d.log.Cut(1) }), on(func(d device) { d.dice.Next() }),
	}
	nodes, rows := known(), 1
	for long := 1; long <= 4; long++ {
		rows *= len(calls)
		for row := range rows {
			p, m := pair(t, nodes, 2, 16, 2, 7, 8, 8)
			for i, rest := 0, row; i < long; i, rest = i+1, rest/len(calls) {
				if !calls[rest%len(calls)](p, m) {
					t.Fatalf("row %d of %d calls, call %d answers otherwise", row, long, i)
				}
			}
			// What lies behind the calls ahead of the last one was looked at in a shorter row.
			follows(t, p, m)
		}
	}
}

// play is a long row of calls: what was written, and what may be written.
type play struct {
	r     *rand.Rand
	refs  []api.Ref
	nodes []judged
	seen  seen
}

// seen is how often something was met in long rows.
type seen struct {
	found, opened, damaged, refused, trees, written, unwritten int
}

// node is one that may be, more often than not.
func (p *play) node() api.Node {
	if p.r.IntN(3) > 0 {
		return p.nodes[p.r.IntN(len(right()))].node
	}
	return p.nodes[p.r.IntN(len(p.nodes))].node
}

// ref is one that was written, mostly lately, or one beside it.
func (p *play) ref() api.Ref {
	from := max(0, len(p.refs)-1-p.r.IntN(6))
	r := p.refs[from]
	switch p.r.IntN(30) {
	case 0:
		r.Key++
	case 1:
		r.Len += p.r.IntN(3) - 1
	case 2:
		r.Off += p.r.IntN(3) - 1
	case 3:
		r.Seg += p.r.IntN(3) - 1
	case 4:
		return p.refs[p.r.IntN(len(p.refs))]
	}
	return r
}

// top is an inner node of pages that were written.
func (p *play) top(m *plain) api.Node {
	n := inner(kid("a", p.ref()), kid("b", p.ref()))
	err := api.OK
	for _, k := range n.Kids {
		if r := k.Ref; r.Seg < 0 || r.Seg > 1<<20 || r.Off < 0 || r.Off > 1<<27 || r.Len < 1 || r.Len > 1<<20 {
			err = api.ErrRef
		}
	}
	m.known = append(m.known, judged{n, err})
	return n
}

func (p *play) write(n api.Node) call {
	return func(x *Pages, m *plain) bool {
		r, err := x.Write(n)
		s, want := m.write(n)
		switch err {
		case api.OK:
			p.refs = append(p.refs, r)
			p.seen.written++
		case api.ErrPower, api.ErrSegs, api.ErrPlace, api.ErrLong:
			p.seen.unwritten++
		}
		return r == s && err == want
	}
}

func (p *play) read(r api.Ref) call {
	return func(x *Pages, m *plain) bool {
		found, _ := m.cache.Hits()
		n, err := x.Read(r)
		y, want := m.read(r)
		now, _ := m.cache.Hits()
		switch {
		case now > found:
			p.seen.found++
		case err == api.OK:
			p.seen.opened++
		case err == api.ErrDamage:
			p.seen.damaged++
		default:
			p.seen.refused++
		}
		return same(n, y) && err == want
	}
}

func (p *play) tree(r api.Ref) call {
	return func(x *Pages, m *plain) bool {
		l, err := x.Tree(r)
		y, want := m.tree(r, 1)
		if len(l) > 2 {
			p.seen.trees++
		}
		return slices.Equal(l, y) && err == want
	}
}

func (p *play) any(m *plain) call {
	r, n := p.ref(), p.node()
	// Where a page begins and ends: elsewhere two pages could make a third one, of which the plain words know nothing.
	whole := p.refs[max(0, len(p.refs)-1-p.r.IntN(30))]
	switch p.r.IntN(48) {
	case 0:
		return on(func(d device) { d.cache.Wipe() })
	case 1:
		return on(func(d device) { d.cache.Drop(r) })
	case 2:
		return on(func(d device) { d.cache.Pin(r) })
	case 3:
		return on(func(d device) { d.cache.Unpin(r) })
	case 4:
		return on(func(d device) { d.cache.Put(r, n) })
	case 5:
		b := sealed(whole.Key, n)
		return on(func(d device) { d.log.Write(whole.Seg, whole.Off, b) })
	case 6:
		return on(func(d device) { d.log.Settle(placeOf(r)) })
	case 7:
		cut := p.r.IntN(20)
		return on(func(d device) { d.log.Cut(cut) })
	case 8:
		return on(func(d device) { d.log.Restore() })
	case 9:
		return on(func(d device) { d.log.Begin(whole.Seg, whole.Off+whole.Len, placeOf(whole)) })
	case 10:
		return on(func(d device) { d.dice.Next() })
	case 11, 12, 13:
		return p.tree(r)
	case 14, 15, 16:
		return p.tree(p.refs[len(p.refs)-1])
	case 17, 18, 19, 20, 21, 22:
		return p.write(p.top(m))
	case 23, 24, 25, 26, 27, 28, 29, 30, 31:
		return p.write(n)
	case 32, 33:
		return on(func(d device) { d.log.Restore() })
	}
	return p.read(r)
}

// P16.2 to P16.5: long rows of calls, most of them on pages that there are.
func TestLongRows(t *testing.T) {
	r := rand.New(rand.NewPCG(16, 4))
	var met seen
	for i := range 300 {
		p := &play{r: r, refs: noRefs(), nodes: known(), seen: met}
		draws := make([]uint64, r.IntN(40))
		for k := range draws {
			draws[k] = uint64(r.IntN(20))
		}
		pages, m := pair(t, p.nodes, 1+r.IntN(6), 60+r.IntN(540), i%9, draws...)
		for range 150 {
			if !p.any(m)(pages, m) {
				t.Fatalf("a call answers otherwise: %+v", all(pages))
			}
			follows(t, pages, m)
		}
		met = p.seen
	}
	// Rows in which there is little to be seen would show little.
	if met.found < 2000 || met.opened < 500 || met.damaged < 500 || met.refused < 500 || met.trees < 200 || met.written < 2000 || met.unwritten < 500 {
		t.Errorf("%+v", met)
	}
}
