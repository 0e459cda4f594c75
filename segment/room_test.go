package segment

import (
	"math/rand/v2"
	"slices"
	"testing"

	"lethe/api"
)

// kept are rows of bytes that were appended, by their places.
type kept map[api.Place]string

// readable holds all rows that lie in segments that are not free against what can be read there; the others are forgotten.
func (k kept) readable(t *testing.T, l *Log) {
	t.Helper()
	for p, b := range k {
		if l.Kind(p.Seg) == api.SegFree {
			delete(k, p)
		} else if s, err := l.Read(p.Seg, p.Off, p.Len); s != b || err != api.OK {
			t.Fatalf("at %v: %q, %d; %q was appended", p, s, err, b)
		}
	}
}

// parted holds that each segment is free, sealed or open, just one open, and nothing twice.
func parted(t *testing.T, l *Log) {
	t.Helper()
	open, _ := l.Open()
	segs := append(append(l.Free(), l.Sealed()...), open)
	slices.Sort(segs)
	if len(segs) != l.Segments() || len(slices.Compact(segs)) != l.Segments() || segs[0] != 0 || segs[len(segs)-1] != l.Segments()-1 {
		t.Fatalf("free %v, sealed %v, open %d", l.Free(), l.Sealed(), open)
	}
	for seg := range l.Segments() {
		want := api.SegFree
		switch {
		case seg == open:
			want = api.SegOpen
		case slices.Contains(l.Sealed(), seg):
			want = api.SegSealed
		}
		if l.Kind(seg) != want || want == api.SegFree && l.Live(seg) != 0 {
			t.Fatalf("Kind(%d), Live: %d, %d, want the kind %d", seg, l.Kind(seg), l.Live(seg), want)
		}
	}
}

// P14.6: to roll seals a segment that lacked the room, and touches a free one alone: what is used of the others stays as it was appended.
func TestRollingTouchesFreeOnesAlone(t *testing.T) {
	r := rand.New(rand.NewPCG(14, 7))
	rolls := 0
	for range 100 {
		segments, size := 2+r.IntN(6), 1+r.IntN(24)
		l, k := made(t, segments, size), kept{}
		for range 300 {
			free := l.Free()
			before, used := l.Open()
			b := make([]byte, 1+r.IntN(size))
			for i := range b {
				b[i] = byte(r.Uint32())
			}
			p, err := l.Append(string(b))
			if err == api.OK {
				k[p] = string(b)
			}
			parted(t, l)
			k.readable(t, l)
			if err == api.OK && p.Seg != before {
				rolls++
				if size-used >= len(b) || p.Seg != free[0] || p.Off != 0 || l.Kind(before) != api.SegSealed {
					t.Fatalf("%v behind %d of %d bytes of the segment %d, with %v free", p, used, size, before, free)
				}
			}
			if err == api.ErrSegs || r.IntN(9) == 0 {
				// Most of what there is goes.
				var live []api.Place
				for p := range k {
					if r.IntN(5) == 0 {
						live = append(live, p)
					}
				}
				settles(t, l, api.OK, live...)
				parted(t, l)
				k.readable(t, l)
			}
		}
	}
	if rolls < 2000 {
		t.Errorf("%d rolls", rolls)
	}
}

// P14.7: m rows of at most a quarter of a segment's room take at most so many new segments as a quarter of m makes, made whole upwards, however full the open one is.
func TestFourRowsASegment(t *testing.T) {
	r := rand.New(rand.NewPCG(14, 8))
	most := 0
	for size := 4; size <= 67; size++ {
		for used := range size + 1 {
			l := made(t, 16, size)
			if used > 0 {
				appends(t, l, long(used), at(0, 0, used))
			}
			taken := map[int]bool{}
			for m := 1; m <= 60; m++ {
				// Most rows are as long as may be: those take the most room.
				n := size / 4
				if size < 60 && r.IntN(6) == 0 {
					n = 1 + r.IntN(n)
				}
				p, err := l.Append(long(n))
				if err != api.OK {
					t.Fatalf("the row %d: %d", m, err)
				}
				if p.Seg != 0 {
					taken[p.Seg] = true
				}
				if len(taken) > (m+3)/4 {
					t.Fatalf("%d rows behind %d of %d bytes took %d segments", m, used, size, len(taken))
				}
				if size%4 == 0 && used == size && size >= 60 && len(taken) == (m+3)/4 {
					most++
				}
			}
		}
	}
	// By a full segment, and rows of just a quarter, the bound is met at each row.
	if most != 2*60 {
		t.Errorf("the bound was met %d times", most)
	}
}
