package segment

import (
	"math"
	"slices"
	"testing"
	"unsafe"

	"lethe/api"
	"lethe/cell"
	"lethe/medium"
	"lethe/power"
)

// far are numbers of no segment of a log of less than 4097.
func far() []int {
	return []int{math.MinInt, -1 << 32, -2, -1, 4097, 1 << 20, 1 << 32, 1<<32 + 1, math.MaxInt}
}

// The chapter's examples, one row behind the other.
func TestExamples(t *testing.T) {
	l := made(t, 3, 4)
	tells(t, l, accounts{"off", 0, []int{0, 0, 0}})
	if l.Kind(0) != api.SegOpen || l.Kind(3) != api.SegNone {
		t.Errorf("Kind(0), Kind(3): %d, %d", l.Kind(0), l.Kind(3))
	}

	appends(t, l, "abc", at(0, 0, 3))
	appends(t, l, "de", at(1, 0, 2))
	tells(t, l, accounts{"sof", 2, []int{0, 0, 0}})

	appends(t, l, "fg", at(1, 2, 2))
	appends(t, l, "h", at(2, 0, 1))
	refuses(t, l, "ijkl", api.ErrSegs)
	tells(t, l, accounts{"sso", 1, []int{0, 0, 0}})

	settles(t, l, api.ErrPlace, at(1, 2, 2), at(1, 3, 1))
	settles(t, l, api.OK, at(1, 2, 2))
	tells(t, l, accounts{"fso", 1, []int{0, 2, 0}})

	appends(t, l, "ijkl", at(0, 0, 4))
	tells(t, l, accounts{"oss", 4, []int{0, 2, 0}})
	if s, err := l.Read(1, 2, 2); s != "fg" || err != api.OK {
		t.Errorf("Read(1, 2, 2): %q, %d", s, err)
	}
	refuses(t, l, "", api.ErrLong)
	refuses(t, l, "mnopq", api.ErrLong)

	begins(t, l, api.OK, 1, 2, at(0, 1, 2))
	tells(t, l, accounts{"sof", 2, []int{2, 0, 0}})
	begins(t, l, api.ErrPlace, 1, 5)
	begins(t, l, api.ErrSeg, 3, 0)
	begins(t, l, api.ErrPlace, 1, 2, at(1, 2, 1))
	tells(t, l, accounts{"sof", 2, []int{2, 0, 0}})
}

// 'Errors': the numbers of those that there are; and the kinds of segments.
func TestNumbers(t *testing.T) {
	l := made(t, 2, 2)
	refuses(t, l, "", 2)
	settles(t, l, 121, at(0, 0, 1))
	begins(t, l, 120, 2, 0)
	begins(t, l, 121, 0, 1)
	appends(t, l, "a", at(0, 0, 1))
	appends(t, l, "bc", at(1, 0, 2))
	refuses(t, l, "d", 140)
	settles(t, l, 0)
	l.Cut(0)
	refuses(t, l, "d", 110)
	if got := []int{l.Kind(-1), l.Kind(0), l.Kind(1), l.Kind(2)}; !slices.Equal(got, []int{0, 1, 3, 0}) {
		t.Errorf("kinds: %v", got)
	}
}

// P14.1: nil of no medium; else the segment 0 is open, of however many there are, and nothing is used or live.
func TestNew(t *testing.T) {
	if l := New(nil); l != nil {
		t.Errorf("New of no medium: %+v", l)
	}
	for _, x := range []struct{ segments, size int }{{1, 1}, {2, 1}, {1, 2}, {3, 4}, {14, 1244}, {4096, 1}, {1, 1 << 20}} {
		l := made(t, x.segments, x.size)
		want := told{
			lives: make([]int, x.segments), kinds: make([]int, x.segments),
			written: make([]string, x.segments), on: true, left: -1,
		}
		for seg := range x.segments {
			want.kinds[seg] = api.SegFree
			if seg > 0 {
				want.free = append(want.free, seg)
			}
		}
		want.kinds[0] = api.SegOpen
		stays(t, l, want)
	}
}

// P14.1: whatever is written on the medium, nothing of it is used; what is appended is written over it, segment by segment.
func TestNewOnWhatIsWritten(t *testing.T) {
	m := newMedium(t, 3, 4)
	for seg := range 3 {
		m.Write(seg, 0, "wxyz")
	}
	m.Cut(5)
	l := New(m)
	tells(t, l, accounts{"off", 0, []int{0, 0, 0}})
	x := all(t, l)
	if !slices.Equal(x.written, []string{"wxyz", "wxyz", "wxyz"}) || x.writes != 3 || x.left != 5 {
		t.Errorf("New did something: %+v", x)
	}
	settles(t, l, api.ErrPlace, at(0, 0, 1))
	appends(t, l, "a", at(0, 0, 1))
	settles(t, l, api.ErrPlace, at(0, 0, 2))
	appends(t, l, "bcde", at(1, 0, 4))
	appends(t, l, "f", at(2, 0, 1))
	tells(t, l, accounts{"sso", 1, []int{0, 0, 0}})
	if got := all(t, l).written; !slices.Equal(got, []string{"a", "bcde", "f"}) {
		t.Errorf("%q is written", got)
	}
}

// P14.1, 'Ways': all methods of the medium, and of its power, are a log's, promoted from the medium itself.
func TestTheMediumIsEmbedded(t *testing.T) {
	type device interface {
		Write(seg, at int, b string) api.Errno
		Read(seg, at, n int) (string, api.Errno)
		Used(int) int
		Segments() int
		Size() int
		Count() int
		Bytes() int
		Cut(int)
		Restore()
		Spend() api.Errno
		On() bool
		Left() int
		Writes() int
	}
	m := newMedium(t, 3, 4)
	l := New(m)
	if l.Medium != m || l.Power != m.Power {
		t.Error("it has another medium, or another power")
	}
	var d device = l
	appends(t, l, "ab", at(0, 0, 2))
	if d.Write(2, 0, "xyz") != api.OK || m.Used(2) != 3 || d.Used(0) != 2 || d.Used(1) != 0 {
		t.Errorf("used: %d, %d, %d", m.Used(0), m.Used(1), m.Used(2))
	}
	if s, err := m.Read(0, 0, 2); s != "ab" || err != api.OK {
		t.Errorf("Read: %q, %d", s, err)
	}
	if d.Segments() != 3 || d.Size() != 4 || d.Count() != 2 || d.Bytes() != 5 || d.Writes() != 2 {
		t.Errorf("%d segments of %d bytes; %d raw writes of %d bytes", d.Segments(), d.Size(), d.Count(), d.Bytes())
	}
	want := []api.Raw{{Seg: 0, At: 0, Bytes: "ab"}, {Seg: 2, At: 0, Bytes: "xyz"}}
	if got := slices.Collect(l.Past()); !slices.Equal(got, want) {
		t.Errorf("Past: %v", got)
	}
	// Raw writes past the log change no account of its.
	tells(t, l, accounts{"off", 2, []int{0, 0, 0}})
	d.Cut(2)
	if m.Left() != 2 || d.Spend() != api.OK || m.Left() != 1 || !d.On() {
		t.Errorf("left %d", m.Left())
	}
	d.Cut(0)
	d.Restore()
	if !m.On() || m.Writes() != 3 {
		t.Errorf("on %v, writes %d", m.On(), m.Writes())
	}
}

// P14.1: a log and a cell on one power fail together.
func TestDevicesOnOnePower(t *testing.T) {
	p := power.New()
	m, _ := medium.New(p, 2, 4)
	l, c := New(m), cell.New(p)
	c.Cut(2)
	appends(t, l, "a", at(0, 0, 1))
	if c.Set(0, "x") != api.OK {
		t.Error("the cell's write was refused")
	}
	refuses(t, l, "b", api.ErrPower)
	c.Restore()
	appends(t, l, "b", at(0, 1, 1))
}

// P14.1: logs on one medium have accounts of their own; a raw write that is refused as the other one wrote over is told.
func TestLogsOnOneMedium(t *testing.T) {
	m := newMedium(t, 2, 4)
	a, b := New(m), New(m)
	appends(t, a, "abc", at(0, 0, 3))
	tells(t, b, accounts{"of", 0, []int{0, 0}})
	settles(t, b, api.ErrPlace, at(0, 0, 1))
	appends(t, b, "x", at(0, 0, 1))
	before := all(t, a)
	refuses(t, a, "d", api.ErrPlace)
	stays(t, a, before)
	// What is used is the log's account, not what is written.
	settles(t, a, api.OK, at(0, 0, 3))
	begins(t, a, api.ErrPlace, 0, 1, at(0, 0, 3))
	begins(t, a, api.OK, 0, 1, at(0, 0, 1))
	appends(t, a, "d", at(0, 1, 1))
}

// P14.2: behind what is used, as long as it fits to the last byte; each place is the next one, of whatever length.
func TestAppend(t *testing.T) {
	for size := 1; size <= 12; size++ {
		for n := 1; n <= size; n++ {
			l := made(t, 4, size)
			for seg := range 4 {
				for off := 0; off+n <= size; off += n {
					appends(t, l, long(n), at(seg, off, n))
					if open, used := l.Open(); open != seg || used != off+n {
						t.Fatalf("Open: %d, %d", open, used)
					}
				}
				// What is left is filled by what just fits.
				if rest := size % n; rest > 0 {
					appends(t, l, long(rest), at(seg, size-rest, rest))
				}
				if s, err := l.Read(seg, 0, size); len(s) != size || err != api.OK {
					t.Fatalf("the segment %d has %q, %d", seg, s, err)
				}
			}
			refuses(t, l, "x", api.ErrSegs)
			refuses(t, l, long(size), api.ErrSegs)
			tells(t, l, accounts{"ssso", size, []int{0, 0, 0, 0}})
		}
	}
}

// P14.2: any bytes are written as they are; a segment's room at its greatest.
func TestAppendAnyBytes(t *testing.T) {
	every := make([]byte, 256)
	for i := range every {
		every[i] = byte(i)
	}
	l := made(t, 2, 600)
	off := 0
	for _, b := range []string{string(every), "\x00", "\x00\x00", "\xff\xfe\x00é", "a\x00"} {
		appends(t, l, b, at(0, off, len(b)))
		if s, err := l.Read(0, off, len(b)); s != b || err != api.OK {
			t.Errorf("%q, %d, want %q", s, err, b)
		}
		off += len(b)
	}
	l = made(t, 2, 1<<20)
	appends(t, l, "a", at(0, 0, 1))
	refuses(t, l, long(1<<20+1), api.ErrLong)
	appends(t, l, long(1<<20), at(1, 0, 1<<20))
	settles(t, l, api.OK, at(1, 0, 1<<20))
	tells(t, l, accounts{"fo", 1 << 20, []int{0, 1 << 20}})
}

// P14.2: the free segment with the least number is rolled to, wherever the open one is.
func TestRollsToTheLeast(t *testing.T) {
	for open := range 5 {
		for lives := range 32 {
			l := made(t, 5, 2)
			for seg := range 5 {
				l.Write(seg, 0, "zz")
			}
			var live []api.Place
			var free []int
			for seg := range 5 {
				switch {
				case seg == open:
				case lives>>seg&1 == 1:
					live = append(live, at(seg, 0, 1))
				default:
					free = append(free, seg)
				}
			}
			begins(t, l, api.OK, open, 1, live...)
			for i, seg := range free {
				b := long(2)
				appends(t, l, b, at(seg, 0, 2))
				if now, used := l.Open(); now != seg || used != 2 {
					t.Fatalf("Open: %d, %d", now, used)
				}
				if !slices.Equal(l.Free(), free[i+1:]) {
					t.Fatalf("Free: %v", l.Free())
				}
			}
			refuses(t, l, long(2), api.ErrSegs)
		}
	}
}

// P14.2: of several errors the first one is told, with power and without; nothing has changed then, and no power was needed.
func TestAppendsThatAreRefused(t *testing.T) {
	for _, off := range []bool{false, true} {
		l := made(t, 3, 4)
		appends(t, l, "abc", at(0, 0, 3))
		appends(t, l, "de", at(1, 0, 2))
		settles(t, l, api.OK, at(0, 0, 2), at(1, 1, 1))
		l.Cut(5)
		if off {
			l.Cut(0)
		}
		before := all(t, l)
		for _, b := range []string{"", long(5), long(6), long(8), long(256), long(1 << 16), long(1<<20 + 1)} {
			refuses(t, l, b, api.ErrLong)
			stays(t, l, before)
		}
		if off {
			for n := 1; n <= 4; n++ {
				refuses(t, l, long(n), api.ErrPower)
				stays(t, l, before)
			}
			l.Restore()
		}
		appends(t, l, "fgh", at(2, 0, 3))
		tells(t, l, accounts{"sso", 3, []int{2, 1, 0}})
		if off {
			l.Cut(0)
		}
		before = all(t, l)
		for n := 2; n <= 4; n++ {
			refuses(t, l, long(n), api.ErrSegs)
			refuses(t, l, "", api.ErrLong)
			refuses(t, l, long(5), api.ErrLong)
			stays(t, l, before)
		}
		if off {
			refuses(t, l, "i", api.ErrPower)
			stays(t, l, before)
			l.Restore()
		}
		appends(t, l, "i", at(2, 3, 1))
	}
}

// P14.2: the medium's other errors are told, too: here, that not so much is written as was used.
func TestTheMediumsError(t *testing.T) {
	l := made(t, 2, 4)
	appends(t, l, "ab", at(0, 0, 2))
	l.Write(0, 0, "x")
	before := all(t, l)
	refuses(t, l, "c", api.ErrPlace)
	stays(t, l, before)
	// More being written than used is no matter.
	l.Write(0, 1, "yyy")
	appends(t, l, "c", at(0, 2, 1))
	if s, _ := l.Read(0, 0, l.Used(0)); s != "xyc" {
		t.Errorf("%q is written", s)
	}
}

// P14.2: behind a cut just so many appends are done, those that roll, too; the one that meets the cut is.
func TestCut(t *testing.T) {
	rows := []string{"ab", "cd", "e", "fgh", "ij", "kl", "m"}
	places := []api.Place{at(0, 0, 2), at(0, 2, 2), at(1, 0, 1), at(1, 1, 3), at(2, 0, 2), at(2, 2, 2), at(3, 0, 1)}
	for n := range len(rows) + 2 {
		l := made(t, 4, 4)
		l.Cut(n)
		for i, b := range rows {
			refuses(t, l, "", api.ErrLong)
			if i >= n {
				before := all(t, l)
				refuses(t, l, b, api.ErrPower)
				stays(t, l, before)
				l.Restore()
			}
			appends(t, l, b, places[i])
			if i >= n {
				l.Cut(0)
			}
		}
		if l.Count() != len(rows) || l.On() != (n > len(rows)) {
			t.Errorf("Cut(%d): %d raw writes, on %v", n, l.Count(), l.On())
		}
	}
}

// P14.5: of numbers of no segment; with power and without.
func TestNoSegment(t *testing.T) {
	for _, segments := range []int{1, 3, 4096} {
		l := made(t, segments, 2)
		appends(t, l, "ab", at(0, 0, 2))
		settles(t, l, api.OK, at(0, 0, 2))
		l.Cut(0)
		for _, seg := range append(far(), segments) {
			if l.Kind(seg) != api.SegNone || l.Live(seg) != 0 {
				t.Errorf("of %d segments: Kind(%d), Live: %d, %d", segments, seg, l.Kind(seg), l.Live(seg))
			}
		}
		if l.Kind(0) != api.SegOpen || l.Live(0) != 2 {
			t.Errorf("Kind(0), Live(0): %d, %d", l.Kind(0), l.Live(0))
		}
	}
}

// R4: what was handed in is neither changed nor kept, and no two answers share any memory, their spare room neither.
func TestMemoryOfItsOwn(t *testing.T) {
	l := made(t, 6, 4)
	b := []byte("abcdef")
	for seg := range 3 {
		appends(t, l, unsafe.String(&b[1], 4), at(seg, 0, 4))
	}
	copy(b, "XXXXXX")
	if s, _ := l.Read(0, 0, 4); s != "bcde" {
		t.Errorf("%q is written", s)
	}
	// The last place stands in the spare room of those that are right.
	in := []api.Place{at(2, 3, 1), at(1, 0, 2), at(2, 0, 1), at(0, 2, 1), at(9, 9, 9)}
	kept := slices.Clone(in)
	for range 2 {
		settles(t, l, api.ErrPlace, in...)
		begins(t, l, api.ErrPlace, 2, 4, in...)
		settles(t, l, api.OK, in[:4]...)
		begins(t, l, api.OK, 2, 4, in[:4]...)
		if !slices.Equal(in, kept) {
			t.Fatalf("what was handed in is now %v", in)
		}
	}
	settles(t, l, api.OK, in[:4]...)
	for i := range in {
		in[i] = at(7, 7, 7)
	}
	tells(t, l, accounts{"ssofff", 4, []int{1, 2, 2, 0, 0, 0}})

	for _, answer := range []func() []int{l.Free, l.Sealed} {
		want := slices.Clone(answer())
		first, second := answer(), answer()
		for i := range first[:cap(first)] {
			first[:cap(first)][i] = 77
		}
		for _, x := range [][]int{second, answer()} {
			if !slices.Equal(x, want) {
				t.Errorf("%v, want %v", x, want)
			}
		}
	}
	tells(t, l, accounts{"ssofff", 4, []int{1, 2, 2, 0, 0, 0}})
}
