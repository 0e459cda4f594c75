package segment

import (
	"math/rand/v2"
	"slices"
	"testing"

	"lethe/api"
)

// call is one on a log, and on the chapter's words; false, if these answer otherwise.
type call func(l *Log, m *plain) bool

func appending(b string) call {
	return func(l *Log, m *plain) bool {
		p, err := l.Append(b)
		q, want := m.append(b)
		return p == q && err == want
	}
}

func settling(live ...api.Place) call {
	return func(l *Log, m *plain) bool { return l.Settle(live...) == m.settle(live) }
}

func beginning(open, used int, live ...api.Place) call {
	return func(l *Log, m *plain) bool { return l.Begin(open, used, live...) == m.begin(open, used, live) }
}

func writing(seg, off int, b string) call {
	return func(l *Log, m *plain) bool { return l.Write(seg, off, b) == m.medium.Write(seg, off, b) }
}

func cutting(n int) call {
	return func(l *Log, m *plain) bool {
		l.Cut(n)
		m.medium.Cut(n)
		return true
	}
}

func restoring(l *Log, m *plain) bool {
	l.Restore()
	m.medium.Restore()
	return true
}

// follows holds all that is told against the chapter's words.
func follows(t *testing.T, l *Log, m *plain) {
	t.Helper()
	if got, want := all(t, l), m.told(); !same(got, want) {
		t.Fatalf("%+v, want %+v", got, want)
	}
}

// P14.1 to P14.6: all short rows of calls, on a log so small that most of them matter.
func TestAllShortRows(t *testing.T) {
	calls := []call{
		appending("a"), appending("bc"), appending("def"),
		settling(), settling(at(0, 0, 1)), settling(at(1, 0, 2), at(0, 1, 1)), settling(at(0, 0, 2), at(0, 1, 1)),
		beginning(0, 1, at(1, 0, 1)), beginning(1, 0), beginning(2, 1, at(0, 0, 2)),
		writing(0, 0, ""), cutting(1), restoring,
	}
	rows := 1
	for long := 1; long <= 5; long++ {
		rows *= len(calls)
		for row := range rows {
			l := made(t, 3, 2)
			m := newPlain(newMedium(t, 3, 2))
			for i, rest := 0, row; i < long; i, rest = i+1, rest/len(calls) {
				if !calls[rest%len(calls)](l, m) {
					t.Fatalf("row %d of %d calls, call %d answers otherwise", row, long, i)
				}
			}
			// What lies behind the calls ahead of the last one was looked at in a shorter row.
			follows(t, l, m)
		}
	}
}

// play is a long row of calls: what was appended, and states that were settled, as a cell could tell of them.
type play struct {
	r        *rand.Rand
	appended []api.Place
	states   []state
}

type state struct {
	open, used int
	live       []api.Place
}

// some are places most of which may be, with no two of them overlapping; seldom any at all.
func (p *play) some(m *plain) []api.Place {
	var l []api.Place
	keep := p.r.IntN(4)
	for _, x := range p.appended {
		if m.kinds[x.Seg] != 1 && x.Off+x.Len <= m.used[x.Seg] && !slices.Contains(l, x) && p.r.IntN(4) <= keep {
			l = append(l, x)
		}
	}
	if p.r.IntN(4) == 0 {
		l = append(l, at(p.r.IntN(8)-1, p.r.IntN(20)-1, p.r.IntN(9)-1))
	}
	p.r.Shuffle(len(l), func(i, j int) { l[i], l[j] = l[j], l[i] })
	return l
}

func (p *play) any(m *plain) call {
	size := m.medium.Size()
	switch n := p.r.IntN(40); {
	case n == 0:
		return restoring
	case n == 1:
		return cutting(p.r.IntN(30) - 1)
	case n == 2:
		return writing(p.r.IntN(len(m.kinds)), p.r.IntN(4), long(p.r.IntN(4)))
	case n == 3:
		return beginning(p.r.IntN(8)-1, p.r.IntN(20)-1, p.some(m)...)
	case n < 6 && len(p.states) > 0:
		x := p.states[p.r.IntN(len(p.states))]
		return beginning(x.open, x.used, x.live...)
	case n < 12:
		live := p.some(m)
		open := slices.Index(m.kinds, 3)
		p.states = append(p.states, state{open, m.used[open], live})
		return settling(live...)
	case n == 12:
		return appending(long(size + p.r.IntN(3)))
	}
	return p.appending(long(p.r.IntN(size/2 + 2)))
}

func (p *play) appending(b string) call {
	return func(l *Log, m *plain) bool {
		got, err := l.Append(b)
		want, no := m.append(b)
		if err == api.OK {
			p.appended = append(p.appended, got)
		}
		return got == want && err == no
	}
}

// P14.1 to P14.6: long rows of calls, most of them on places that there are.
func TestLongRows(t *testing.T) {
	r := rand.New(rand.NewPCG(14, 6))
	var freed, rolled, moved, without, full int
	for range 300 {
		segments, size := 1+r.IntN(6), 1+r.IntN(16)
		l, p := made(t, segments, size), &play{r: r}
		m := newPlain(newMedium(t, segments, size))
		for range 200 {
			before := m.told()
			if !p.any(m)(l, m) {
				t.Fatalf("a call answers otherwise: %+v", all(t, l))
			}
			follows(t, l, m)
			switch after := m.told(); {
			case !after.on:
				without++
			case after.open != before.open && after.writes > before.writes:
				rolled++
			case after.open != before.open:
				moved++
			case len(after.free) > len(before.free):
				freed++
			case len(after.free) == 0:
				full++
			}
		}
	}
	// Rows in which there is little to be seen would show little.
	if freed < 500 || rolled < 2000 || moved < 300 || without < 5000 || full < 5000 {
		t.Errorf("%d times was something freed, %d times rolled, %d times begun elsewhere; %d calls were without power, %d without a free segment", freed, rolled, moved, without, full)
	}
}
