package segment

import (
	"slices"
	"strings"
	"testing"

	"lethe/api"
	"lethe/medium"
	"lethe/power"
)

func newMedium(t *testing.T, segments, size int) *medium.Medium {
	t.Helper()
	m, err := medium.New(power.New(), segments, size)
	if err != api.OK {
		t.Fatalf("a medium of %d segments of %d bytes: %d", segments, size, err)
	}
	return m
}

func made(t *testing.T, segments, size int) *Log {
	t.Helper()
	l := New(newMedium(t, segments, size))
	if l == nil {
		t.Fatal("New of a medium: nil")
	}
	return l
}

// long is so many bytes, no two of them beside one another the same.
func long(n int) string { return strings.Repeat("abcdefg", n/7+1)[:n] }

// at is a place.
func at(seg, off, n int) api.Place { return api.Place{Seg: seg, Off: off, Len: n} }

// appends, refuses, settles and begins do a call that must be answered so.
func appends(t *testing.T, l *Log, b string, want api.Place) {
	t.Helper()
	if p, err := l.Append(b); p != want || err != api.OK {
		t.Fatalf("Append(%.20q): %v, %d, want %v", b, p, err, want)
	}
}

func refuses(t *testing.T, l *Log, b string, want api.Errno) {
	t.Helper()
	if p, err := l.Append(b); p != (api.Place{}) || err != want {
		t.Fatalf("Append(%.20q): %v, %d, want %d", b, p, err, want)
	}
}

func settles(t *testing.T, l *Log, want api.Errno, live ...api.Place) {
	t.Helper()
	if err := l.Settle(live...); err != want {
		t.Fatalf("Settle(%v): %d, want %d", live, err, want)
	}
}

func begins(t *testing.T, l *Log, want api.Errno, open, used int, live ...api.Place) {
	t.Helper()
	if err := l.Begin(open, used, live...); err != want {
		t.Fatalf("Begin(%d, %d, %v): %d, want %d", open, used, live, err, want)
	}
}

// told is all that a log tells.
type told struct {
	open, used   int
	free, sealed []int
	kinds, lives []int // of each segment
	written      []string
	past         []api.Raw
	on           bool
	left, writes int
}

func all(t *testing.T, l *Log) told {
	t.Helper()
	x := told{
		free: l.Free(), sealed: l.Sealed(),
		past: slices.Collect(l.Past()),
		on:   l.On(), left: l.Left(), writes: l.Writes(),
	}
	x.open, x.used = l.Open()
	for seg := range l.Segments() {
		x.kinds = append(x.kinds, l.Kind(seg))
		x.lives = append(x.lives, l.Live(seg))
		s, err := l.Read(seg, 0, l.Used(seg))
		if err != api.OK {
			t.Fatalf("the segment %d can't be read: %d", seg, err)
		}
		x.written = append(x.written, s)
	}
	return x
}

func same(a, b told) bool {
	return a.open == b.open && a.used == b.used &&
		slices.Equal(a.free, b.free) && slices.Equal(a.sealed, b.sealed) &&
		slices.Equal(a.kinds, b.kinds) && slices.Equal(a.lives, b.lives) &&
		slices.Equal(a.written, b.written) && slices.Equal(a.past, b.past) &&
		a.on == b.on && a.left == b.left && a.writes == b.writes
}

// accounts is what a log must tell of its segments, by their kinds (f free, s sealed, o open) and live bytes.
type accounts struct {
	kinds string
	used  int // of the open one
	lives []int
}

// tells holds what a log tells of its segments against what it must, twice: asking changes nothing.
func tells(t *testing.T, l *Log, want accounts) {
	t.Helper()
	for range 2 {
		x := all(t, l)
		got := accounts{used: x.used, lives: x.lives}
		var free, sealed []int
		for seg, kind := range x.kinds {
			switch kind {
			case 1:
				got.kinds += "f"
				free = append(free, seg)
			case 2:
				got.kinds += "s"
				sealed = append(sealed, seg)
			case 3:
				got.kinds += "o"
			}
		}
		if got.kinds != want.kinds || got.used != want.used || !slices.Equal(got.lives, want.lives) {
			t.Fatalf("%v, want %v", got, want)
		}
		if !slices.Equal(x.free, free) || !slices.Equal(x.sealed, sealed) || x.kinds[x.open] != 3 {
			t.Fatalf("of %s: Free %v, Sealed %v, Open %d", got.kinds, x.free, x.sealed, x.open)
		}
	}
}

// stays holds all that a log tells against what it told.
func stays(t *testing.T, l *Log, before told) {
	t.Helper()
	if got := all(t, l); !same(got, before) {
		t.Fatalf("%+v, it was %+v", got, before)
	}
}

// plain is the chapter's words, one by one, byte by byte, on a medium of its own.
type plain struct {
	medium *medium.Medium
	kinds  []int
	used   []int
	live   []map[int]bool // of each segment its live bytes
}

func newPlain(m *medium.Medium) *plain {
	x := &plain{medium: m, used: make([]int, m.Segments())}
	for seg := range m.Segments() {
		kind := 1
		if seg == 0 {
			kind = 3
		}
		x.kinds = append(x.kinds, kind)
		x.live = append(x.live, map[int]bool{})
	}
	return x
}

func (m *plain) append(b string) (api.Place, api.Errno) {
	if b == "" || len(b) > m.medium.Size() {
		return api.Place{}, 2
	}
	open := slices.Index(m.kinds, 3)
	to := open
	if m.used[open]+len(b) > m.medium.Size() {
		to = slices.Index(m.kinds, 1)
		if to < 0 {
			return api.Place{}, 140
		}
		if err := m.medium.Write(to, 0, b); err != 0 {
			return api.Place{}, err
		}
		m.kinds[open], m.kinds[to], m.used[to] = 2, 3, 0
	} else if err := m.medium.Write(to, m.used[to], b); err != 0 {
		return api.Place{}, err
	}
	p := api.Place{Seg: to, Off: m.used[to], Len: len(b)}
	m.used[to] += len(b)
	return p, 0
}

// bytesOf are the bytes of places, none of which may go beyond what is used; false, if one may not be, or a byte stands in two.
func (m *plain) bytesOf(live []api.Place, used func(seg int) int) ([]map[int]bool, bool) {
	is := make([]map[int]bool, len(m.kinds))
	for seg := range is {
		is[seg] = map[int]bool{}
	}
	for _, p := range live {
		if p.Seg < 0 || p.Seg >= len(m.kinds) || p.Len < 1 || p.Off < 0 || p.Off+p.Len > used(p.Seg) {
			return nil, false
		}
		for i := range p.Len {
			if is[p.Seg][p.Off+i] {
				return nil, false
			}
			is[p.Seg][p.Off+i] = true
		}
	}
	return is, true
}

func (m *plain) settle(live []api.Place) api.Errno {
	is, ok := m.bytesOf(live, func(seg int) int {
		if m.kinds[seg] == 1 {
			return 0
		}
		return m.used[seg]
	})
	if !ok {
		return 121
	}
	m.live = is
	for seg := range m.kinds {
		if m.kinds[seg] == 2 && len(is[seg]) == 0 {
			m.kinds[seg] = 1
		}
	}
	return 0
}

func (m *plain) begin(open, used int, live []api.Place) api.Errno {
	if open < 0 || open >= len(m.kinds) {
		return 120
	}
	if used < 0 || used > m.medium.Used(open) {
		return 121
	}
	is, ok := m.bytesOf(live, func(seg int) int {
		if seg == open {
			return used
		}
		return m.medium.Used(seg)
	})
	if !ok {
		return 121
	}
	m.live = is
	for seg := range m.kinds {
		m.kinds[seg], m.used[seg] = 1, 0
		if len(is[seg]) > 0 {
			m.kinds[seg], m.used[seg] = 2, m.medium.Used(seg)
		}
	}
	m.kinds[open], m.used[open] = 3, used
	return 0
}

func (m *plain) told() told {
	x := told{
		past: slices.Collect(m.medium.Past()), kinds: slices.Clone(m.kinds),
		on: m.medium.On(), left: m.medium.Left(), writes: m.medium.Writes(),
	}
	x.open = slices.Index(m.kinds, 3)
	x.used = m.used[x.open]
	for seg, kind := range m.kinds {
		switch kind {
		case 1:
			x.free = append(x.free, seg)
		case 2:
			x.sealed = append(x.sealed, seg)
		}
		x.lives = append(x.lives, len(m.live[seg]))
		s, _ := m.medium.Read(seg, 0, m.medium.Used(seg))
		x.written = append(x.written, s)
	}
	return x
}
