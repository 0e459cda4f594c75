package power

import (
	"testing"

	"lethe/api"
)

// told is all that a power tells of itself.
type told struct {
	on           bool
	left, writes int
}

func all(p *Power) told { return told{p.On(), p.Left(), p.Writes()} }

// tells holds what a power tells against what it must, twice: asking changes nothing.
func tells(t *testing.T, p *Power, want told) {
	t.Helper()
	for range 2 {
		if got := all(p); got != want {
			t.Fatalf("%+v, want %+v", got, want)
		}
	}
}

// spends does raw writes, each of which must be answered so.
func spends(t *testing.T, p *Power, n int, want api.Errno) {
	t.Helper()
	for i := range n {
		if e := p.Spend(); e != want {
			t.Fatalf("raw write %d of %d: %d, want %d", i, n, e, want)
		}
	}
}

// pasts are powers that went through something, and are on.
func pasts() map[string]func() *Power {
	return map[string]func() *Power{
		"new": New,
		"written": func() *Power {
			p := New()
			p.Spend()
			p.Spend()
			return p
		},
		"a cut ahead": func() *Power {
			p := New()
			p.Cut(3)
			p.Spend()
			return p
		},
		"a far cut ahead": func() *Power {
			p := New()
			p.Cut(api.MaxCut)
			return p
		},
		"cut and restored": func() *Power {
			p := New()
			p.Cut(1)
			p.Spend()
			p.Spend()
			p.Restore()
			return p
		},
		"off at once and restored": func() *Power {
			p := New()
			p.Cut(0)
			p.Cut(5)
			p.Restore()
			p.Spend()
			return p
		},
	}
}

// plain is the chapter's words, one by one.
type plain struct {
	off, ahead   bool
	away, writes int
}

func (m *plain) cut(n int) {
	if m.off {
		return
	}
	m.ahead, m.away = false, 0
	switch {
	case n < 0:
	case n == 0:
		m.off = true
	case n > 1<<30:
		m.ahead, m.away = true, 1<<30
	default:
		m.ahead, m.away = true, n
	}
}

func (m *plain) restore() { m.off, m.ahead, m.away = false, false, 0 }

func (m *plain) spend() api.Errno {
	if m.off {
		return 110
	}
	m.writes++
	if m.ahead {
		m.away--
		if m.away == 0 {
			m.off, m.ahead = true, false
		}
	}
	return 0
}

func (m *plain) told() told {
	switch {
	case m.off:
		return told{false, 0, m.writes}
	case m.ahead:
		return told{true, m.away, m.writes}
	}
	return told{true, -1, m.writes}
}

// rolls are numbers that look as if they were drawn, the same ones each time.
type rolls struct{ now uint64 }

func (r *rolls) below(n int) int {
	r.now = r.now*6364136223846793005 + 1442695040888963407
	return int(r.now >> 33 % uint64(n))
}
