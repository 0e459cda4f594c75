package medium

import (
	"math/rand/v2"
	"slices"
	"testing"

	"lethe/api"
	"lethe/power"
)

// call is one on a medium, and on the chapter's words; false, if these answer otherwise.
type call func(m *Medium, p *plain) bool

func writing(seg, at int, b string) call {
	return func(m *Medium, p *plain) bool { return m.Write(seg, at, b) == p.write(seg, at, b) }
}

func cutting(n int) call {
	return func(m *Medium, p *plain) bool {
		m.Cut(n)
		p.power.Cut(n)
		return true
	}
}

func restoring(m *Medium, p *plain) bool {
	m.Restore()
	p.power.Restore()
	return true
}

// follows holds all that is told against the chapter's words, and what is written against the past.
func follows(t *testing.T, m *Medium, p *plain) {
	t.Helper()
	got := all(t, m)
	if want := p.told(); !same(got, want) {
		t.Fatalf("%+v, want %+v", got, want)
	}
	if want := replayed(m.Segments(), got.past); !slices.Equal(got.written, want) {
		t.Fatalf("%q is written, the past makes %q", got.written, want)
	}
}

// P12.2 to P12.5: all short rows of calls, on a medium so small that most of them matter.
func TestAllShortRows(t *testing.T) {
	calls := []call{cutting(0), cutting(1), restoring}
	for _, at := range []int{0, 1, 2} {
		for _, b := range []string{"", "x", "yz"} {
			calls = append(calls, writing(0, at, b))
		}
	}
	calls = append(calls, writing(1, 0, "w"), writing(2, 0, "w"))
	const long = 4
	rows := 1
	for range long {
		rows *= len(calls)
	}
	for row := range rows {
		m, p := made(t, power.New(), 2, 2), newPlain(2, 2)
		for i, rest := 0, row; i < long; i, rest = i+1, rest/len(calls) {
			if !calls[rest%len(calls)](m, p) {
				t.Fatalf("row %d, call %d answers otherwise", row, i)
			}
			follows(t, m, p)
		}
	}
}

// anyCall is most often a write that may be, over what is there or behind it.
func anyCall(r *rand.Rand, p *plain) call {
	switch r.IntN(20) {
	case 0:
		return restoring
	case 1:
		return cutting(r.IntN(30) - 1)
	case 2:
		return writing(r.IntN(9)-2, r.IntN(40)-4, long(r.IntN(40)))
	}
	seg := r.IntN(len(p.written))
	at := r.IntN(len(p.written[seg]) + 1)
	if r.IntN(2) == 0 {
		at = len(p.written[seg])
	}
	b := make([]byte, r.IntN(p.size-at+1))
	for i := range b {
		b[i] = byte(r.Uint32())
	}
	return writing(seg, at, string(b))
}

// P12.2 to P12.5: long rows of calls, most of them writes that are done.
func TestLongRows(t *testing.T) {
	r := rand.New(rand.NewPCG(12, 5))
	did, refused := 0, 0
	for range 60 {
		segments, size := 1+r.IntN(5), 1+r.IntN(30)
		m, p := made(t, power.New(), segments, size), newPlain(segments, size)
		for range 300 {
			if !anyCall(r, p)(m, p) {
				t.Fatalf("a call answers otherwise: %+v", all(t, m))
			}
			if !p.power.On() {
				refused++
			}
			follows(t, m, p)
			seg, at, n := r.IntN(segments), r.IntN(size+2)-1, r.IntN(size+2)-1
			if s := p.written[seg]; at < 0 || n < 0 || at+n > len(s) {
				reads(t, m, "", api.ErrPlace, seg, at, n)
			} else {
				reads(t, m, s[at:at+n], api.OK, seg, at, n)
			}
		}
		did += m.Count()
	}
	// Rows in which little is written, or the power is never off, would show little.
	if did < 5000 || refused < 1000 {
		t.Errorf("%d raw writes were done, %d calls made without power", did, refused)
	}
}
