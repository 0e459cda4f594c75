package medium

import (
	"slices"
	"strings"
	"testing"

	"lethe/api"
	"lethe/power"
)

func made(t *testing.T, p *power.Power, segments, size int) *Medium {
	t.Helper()
	m, err := New(p, segments, size)
	if err != api.OK || m == nil {
		t.Fatalf("New of %d segments of %d bytes: %v, %d", segments, size, m, err)
	}
	return m
}

// small is a medium as the chapter's examples have it.
func small(t *testing.T) *Medium {
	t.Helper()
	return made(t, power.New(), 2, 4)
}

// long is so many bytes, no two of them beside one another the same.
func long(n int) string { return strings.Repeat("abcdefg", n/7+1)[:n] }

func past(m *Medium) []api.Raw { return slices.Collect(m.Past()) }

// writes does a raw write that must be answered so.
func writes(t *testing.T, m *Medium, want api.Errno, seg, at int, b string) {
	t.Helper()
	if err := m.Write(seg, at, b); err != want {
		t.Fatalf("Write(%d, %d, %.20q): %d, want %d", seg, at, b, err, want)
	}
}

// reads asks for bytes that must be answered so, twice: asking changes nothing.
func reads(t *testing.T, m *Medium, want string, wrong api.Errno, seg, at, n int) {
	t.Helper()
	for range 2 {
		if s, err := m.Read(seg, at, n); s != want || err != wrong {
			t.Fatalf("Read(%d, %d, %d): %.20q, %d, want %.20q, %d", seg, at, n, s, err, want, wrong)
		}
	}
}

// told is all that a medium tells.
type told struct {
	segments, size int
	written        []string // of each segment
	past           []api.Raw
	count, bytes   int
	on             bool
	left, writes   int
}

func all(t *testing.T, m *Medium) told {
	t.Helper()
	l := told{
		segments: m.Segments(), size: m.Size(),
		past: past(m), count: m.Count(), bytes: m.Bytes(),
		on: m.On(), left: m.Left(), writes: m.Writes(),
	}
	for seg := range m.Segments() {
		s, err := m.Read(seg, 0, m.Used(seg))
		if err != api.OK {
			t.Fatalf("the segment %d can't be read: %d", seg, err)
		}
		l.written = append(l.written, s)
	}
	return l
}

func same(a, b told) bool {
	return a.segments == b.segments && a.size == b.size &&
		slices.Equal(a.written, b.written) && slices.Equal(a.past, b.past) &&
		a.count == b.count && a.bytes == b.bytes &&
		a.on == b.on && a.left == b.left && a.writes == b.writes
}

// plain is the chapter's words, one by one, on a power of its own.
type plain struct {
	power   *power.Power
	size    int
	written []string
	past    []api.Raw
}

func newPlain(segments, size int) *plain {
	return &plain{power: power.New(), size: size, written: make([]string, segments)}
}

func (m *plain) write(seg, at int, b string) api.Errno {
	if seg < 0 || seg >= len(m.written) {
		return 120
	}
	if at < 0 || at > len(m.written[seg]) {
		return 121
	}
	if at+len(b) > m.size {
		return 122
	}
	if m.power.Spend() != 0 {
		return 110
	}
	m.written[seg] = m.written[seg][:at] + b
	m.past = append(m.past, api.Raw{Seg: seg, At: at, Bytes: b})
	return 0
}

func (m *plain) told() told {
	l := told{
		segments: len(m.written), size: m.size,
		written: m.written,
		past:    m.past, count: len(m.past),
		on: m.power.On(), left: m.power.Left(), writes: m.power.Writes(),
	}
	for _, raw := range m.past {
		l.bytes += len(raw.Bytes)
	}
	return l
}

// replayed is what comes of raw writes, done one behind the other.
func replayed(segments int, past []api.Raw) []string {
	written := make([]string, segments)
	for _, raw := range past {
		written[raw.Seg] = written[raw.Seg][:raw.At] + raw.Bytes
	}
	return written
}
