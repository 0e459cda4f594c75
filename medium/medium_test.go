package medium

import (
	"math"
	"slices"
	"testing"
	"unsafe"

	"lethe/api"
	"lethe/power"
)

// The chapter's examples, one row behind the other.
func TestExamples(t *testing.T) {
	m := small(t)
	writes(t, m, api.OK, 0, 0, "abc")
	if m.Used(0) != 3 {
		t.Errorf("Used(0): %d", m.Used(0))
	}
	reads(t, m, "bc", api.OK, 0, 1, 2)

	writes(t, m, api.ErrPlace, 0, 4, "x")
	writes(t, m, api.ErrRoom, 0, 3, "xy")
	writes(t, m, api.ErrSeg, 2, 0, "x")
	writes(t, m, api.ErrPlace, 0, -1, "x")

	writes(t, m, api.OK, 0, 1, "Z")
	reads(t, m, "aZ", api.OK, 0, 0, 2)
	reads(t, m, "", api.ErrPlace, 0, 0, 3)
	if m.Used(1) != 0 || m.Used(9) != 0 {
		t.Errorf("Used(1), Used(9): %d, %d", m.Used(1), m.Used(9))
	}

	if want := []api.Raw{{Seg: 0, At: 0, Bytes: "abc"}, {Seg: 0, At: 1, Bytes: "Z"}}; !slices.Equal(past(m), want) {
		t.Errorf("Past: %v", past(m))
	}
	if m.Count() != 2 || m.Bytes() != 4 || m.Writes() != 2 {
		t.Errorf("Count, Bytes, Writes: %d, %d, %d", m.Count(), m.Bytes(), m.Writes())
	}

	m.Cut(0)
	writes(t, m, api.ErrPower, 1, 0, "q")
	writes(t, m, api.ErrSeg, 2, 0, "q")
	reads(t, m, "a", api.OK, 0, 0, 1)
	if m.On() {
		t.Error("the power is on")
	}
}

// 'Errors': the numbers of those that there are.
func TestErrors(t *testing.T) {
	if m, err := New(nil, 2, 4); m != nil || err != 1 {
		t.Errorf("New without a power: %v, %d", m, err)
	}
	m := small(t)
	writes(t, m, 120, 2, 0, "")
	writes(t, m, 121, 0, 1, "")
	writes(t, m, 122, 0, 0, "abcde")
	m.Cut(0)
	writes(t, m, 110, 0, 0, "a")
	reads(t, m, "", 120, 2, 0, 0)
	reads(t, m, "", 121, 0, 0, 1)
}

// P12.1: so many segments of so much room, nothing written; at the limits, too.
func TestNew(t *testing.T) {
	for _, x := range []struct{ segments, size int }{
		{1, 1}, {1, 2}, {2, 1}, {2, 4}, {17, 1244}, {4095, 1<<20 - 1}, {4096, 1}, {1, 1 << 20}, {4096, 1 << 20},
	} {
		m := made(t, power.New(), x.segments, x.size)
		want := told{segments: x.segments, size: x.size, written: make([]string, x.segments), on: true, left: -1}
		if got := all(t, m); !same(got, want) {
			t.Errorf("%+v: %+v", x, got)
		}
	}
}

// P12.1: nil and ErrArg, of each number beyond its limits, and without a power, whatever else is right or wrong.
func TestNewOfWhatMayNotBe(t *testing.T) {
	segments := []int{math.MinInt, -1 << 32, -4096, -1, 0, 4097, 8192, 1 << 20, 1<<32 + 1, math.MaxInt}
	sizes := []int{math.MinInt, -1 << 32, -1 << 20, -1, 0, 1<<20 + 1, 1 << 21, 1<<32 + 1, math.MaxInt}
	refused := func(p *power.Power, segments, size int) {
		t.Helper()
		if m, err := New(p, segments, size); m != nil || err != api.ErrArg {
			t.Errorf("New of %d segments of %d bytes: %v, %d", segments, size, m, err)
		}
	}
	p := power.New()
	for _, n := range segments {
		for _, size := range append([]int{1, 4, 1 << 20}, sizes...) {
			refused(p, n, size)
			refused(nil, n, size)
		}
	}
	for _, size := range sizes {
		for _, n := range []int{1, 2, 4096} {
			refused(p, n, size)
			refused(nil, n, size)
		}
	}
	refused(nil, 1, 1)
	refused(nil, 4096, 1<<20)
	if !p.On() || p.Left() != -1 || p.Writes() != 0 {
		t.Error("the power was told something")
	}
}

// P12.1: New needs no power, and tells it nothing.
func TestNewLeavesThePower(t *testing.T) {
	p := power.New()
	p.Cut(2)
	p.Spend()
	if m := made(t, p, 2, 4); m.Left() != 1 || m.Writes() != 1 {
		t.Errorf("left %d, writes %d", m.Left(), m.Writes())
	}
	p.Cut(0)
	m := made(t, p, 2, 4)
	if m.On() || m.Left() != 0 || m.Writes() != 1 {
		t.Errorf("on %v, left %d, writes %d", m.On(), m.Left(), m.Writes())
	}
	writes(t, m, api.ErrPower, 0, 0, "a")
	p.Restore()
	writes(t, m, api.OK, 0, 0, "a")
}

// P12.1, 'Ways': all methods of the power are a medium's, promoted from the power itself.
func TestThePowerIsEmbedded(t *testing.T) {
	type powered interface {
		Cut(int)
		Restore()
		Spend() api.Errno
		On() bool
		Left() int
		Writes() int
	}
	p := power.New()
	m := made(t, p, 2, 4)
	if m.Power != p {
		t.Error("it has another power")
	}
	var has powered = m
	has.Cut(3)
	if p.Left() != 3 || has.Spend() != api.OK || p.Left() != 2 || p.Writes() != 1 {
		t.Errorf("left %d, writes %d", p.Left(), p.Writes())
	}
	// A raw write of another device is none of this one's.
	if m.Count() != 0 || m.Bytes() != 0 || past(m) != nil {
		t.Errorf("%+v", all(t, m))
	}
}

// P12.1: what is told to one device's power all others know; what is written in one none of them has.
func TestDevicesOnOnePower(t *testing.T) {
	p := power.New()
	a, b := made(t, p, 2, 4), made(t, p, 1, 9)
	writes(t, a, api.OK, 0, 0, "a")
	a.Cut(2)
	if b.Left() != 2 || b.Writes() != 1 {
		t.Errorf("left %d, writes %d", b.Left(), b.Writes())
	}
	writes(t, b, api.OK, 0, 0, "bcd")
	writes(t, a, api.OK, 1, 0, "e")
	writes(t, b, api.ErrPower, 0, 3, "f")
	writes(t, a, api.ErrPower, 1, 1, "f")
	if a.On() || b.On() || p.Writes() != 3 {
		t.Errorf("on %v, %v, writes %d", a.On(), b.On(), p.Writes())
	}
	b.Restore()
	writes(t, a, api.OK, 1, 1, "g")
	want := told{segments: 2, size: 4, written: []string{"a", "eg"}, count: 3, bytes: 3, on: true, left: -1, writes: 4,
		past: []api.Raw{{Bytes: "a"}, {Seg: 1, Bytes: "e"}, {Seg: 1, At: 1, Bytes: "g"}}}
	if got := all(t, a); !same(got, want) {
		t.Errorf("%+v", got)
	}
	want = told{segments: 1, size: 9, written: []string{"bcd"}, count: 1, bytes: 3, on: true, left: -1, writes: 4, past: []api.Raw{{Bytes: "bcd"}}}
	if got := all(t, b); !same(got, want) {
		t.Errorf("%+v", got)
	}
}

// P12.2: at every place, over every row of bytes, with as many bytes as there is room for, none too: what stood ahead stays, what stood from there on is gone.
func TestWriteAtEveryPlace(t *testing.T) {
	const room = 6
	for used := range room + 1 {
		for at := range used + 1 {
			for n := range room - at + 1 {
				m := made(t, power.New(), 3, room)
				writes(t, m, api.OK, 0, 0, "lo")
				writes(t, m, api.OK, 1, 0, long(used))
				writes(t, m, api.OK, 2, 0, "hi")
				b := "UVWXYZ"[:n]
				writes(t, m, api.OK, 1, at, b)
				got := all(t, m)
				if want := []string{"lo", long(used)[:at] + b, "hi"}; !slices.Equal(got.written, want) || m.Used(1) != at+n {
					t.Errorf("%d bytes at %d of %d: %q", n, at, used, got.written)
				}
				if last := (api.Raw{Seg: 1, At: at, Bytes: b}); got.count != 4 || got.past[3] != last || got.bytes != 4+used+n || got.writes != 4 {
					t.Errorf("%d bytes at %d of %d: %+v", n, at, used, got)
				}
				reads(t, m, "", api.ErrPlace, 1, 0, at+n+1)
			}
		}
	}
}

// P12.2: what was written over does not come back, when more is written behind.
func TestWhatIsWrittenOverIsGone(t *testing.T) {
	m := made(t, power.New(), 1, 6)
	writes(t, m, api.OK, 0, 0, "abcdef")
	writes(t, m, api.OK, 0, 2, "")
	reads(t, m, "", api.ErrPlace, 0, 2, 1)
	writes(t, m, api.ErrPlace, 0, 3, "x")
	writes(t, m, api.OK, 0, 2, "X")
	reads(t, m, "abX", api.OK, 0, 0, 3)
	reads(t, m, "", api.ErrPlace, 0, 0, 4)
	writes(t, m, api.OK, 0, 0, "")
	if m.Used(0) != 0 || m.Count() != 4 || m.Writes() != 4 || m.Bytes() != 7 {
		t.Errorf("%+v", all(t, m))
	}
	writes(t, m, api.ErrPlace, 0, 1, "")
}

// P12.2: any bytes are written as they are.
func TestAnyBytes(t *testing.T) {
	every := make([]byte, 256)
	for i := range every {
		every[i] = byte(i)
	}
	m := made(t, power.New(), 1, 600)
	writes(t, m, api.OK, 0, 0, string(every))
	writes(t, m, api.OK, 0, 256, "\xff\xfe\x00é")
	reads(t, m, string(every)+"\xff\xfe\x00é", api.OK, 0, 0, 261)
	if l := past(m); len(l) != 2 || l[0].Bytes != string(every) || l[1].Bytes != "\xff\xfe\x00é" {
		t.Errorf("%v", l)
	}
}

// P12.2: of several errors the first one is told, with power and without; and nothing has changed.
func TestWritesThatAreRefused(t *testing.T) {
	far := []int{math.MinInt, -1 << 32, -1, 1 << 32, math.MaxInt}
	for _, off := range []bool{false, true} {
		m := small(t)
		writes(t, m, api.OK, 0, 0, "abc")
		m.Cut(5)
		if off {
			m.Cut(0)
		}
		before := all(t, m)
		refused := func(want api.Errno, seg, at int, b string) {
			t.Helper()
			writes(t, m, want, seg, at, b)
			if got := all(t, m); !same(got, before) {
				t.Fatalf("Write(%d, %d, %q): %+v, it was %+v", seg, at, b, got, before)
			}
		}
		for _, b := range []string{"", "x", "wxyz", "vwxyz", long(100)} {
			for _, at := range append([]int{0, 1, 3, 4, 5}, far...) {
				for _, seg := range append([]int{2, 3}, far...) {
					refused(api.ErrSeg, seg, at, b)
				}
			}
			for _, at := range append([]int{4, 5}, far...) {
				refused(api.ErrPlace, 0, at, b)
			}
			for _, at := range append([]int{1, 4}, far...) {
				refused(api.ErrPlace, 1, at, b)
			}
		}
		for at := range 4 {
			refused(api.ErrRoom, 0, at, long(4-at+1))
			refused(api.ErrRoom, 0, at, long(1<<21))
		}
		refused(api.ErrRoom, 1, 0, "vwxyz")
		if !off {
			writes(t, m, api.OK, 0, 3, "d")
			continue
		}
		for at := range 4 {
			refused(api.ErrPower, 0, at, "")
			refused(api.ErrPower, 0, at, long(4-at))
		}
		refused(api.ErrPower, 1, 0, "wxyz")
	}
}

// P12.2: the greatest medium, and the most bytes of a segment.
func TestTheGreatestMedium(t *testing.T) {
	m := made(t, power.New(), 4096, 1<<20)
	full := long(1 << 20)
	writes(t, m, api.ErrSeg, 4096, 0, "x")
	writes(t, m, api.ErrRoom, 4095, 0, full+"x")
	writes(t, m, api.OK, 4095, 0, full)
	reads(t, m, full, api.OK, 4095, 0, 1<<20)
	reads(t, m, "", api.ErrPlace, 4095, 0, 1<<20+1)
	reads(t, m, "", api.ErrSeg, 4096, 0, 1)
	writes(t, m, api.ErrRoom, 4095, 1<<20, "x")
	writes(t, m, api.ErrPlace, 4095, 1<<20+1, "")
	writes(t, m, api.OK, 4095, 1<<20, "")
	writes(t, m, api.ErrRoom, 4095, 1<<20-1, "xy")
	writes(t, m, api.OK, 4095, 1<<20-1, "!")
	reads(t, m, full[:1<<20-1]+"!", api.OK, 4095, 0, 1<<20)
	if m.Used(4095) != 1<<20 || m.Used(4096) != 0 || m.Used(4094) != 0 || m.Count() != 3 || m.Bytes() != 1<<20+1 {
		t.Errorf("Used %d, Count %d, Bytes %d", m.Used(4095), m.Count(), m.Bytes())
	}
}

// P12.3: just what is written is read, at every place; with power and without; and nothing changes by it.
func TestReadAtEveryPlace(t *testing.T) {
	const s = "abcd"
	for used := range len(s) + 1 {
		m := made(t, power.New(), 2, 6)
		writes(t, m, api.OK, 1, 0, s[:used])
		m.Cut(1)
		for range 2 {
			before := all(t, m)
			for _, at := range []int{math.MinInt, -1 << 32, -2, -1, 0, 1, 2, 3, 4, 5, 6, 7, 1 << 32, math.MaxInt} {
				for _, n := range []int{math.MinInt, -1 << 32, -2, -1, 0, 1, 2, 3, 4, 5, 6, 7, 1 << 32, math.MaxInt - 3, math.MaxInt} {
					if 0 <= at && at <= used && 0 <= n && n <= used-at {
						reads(t, m, s[at:at+n], api.OK, 1, at, n)
					} else {
						reads(t, m, "", api.ErrPlace, 1, at, n)
					}
					for _, seg := range []int{math.MinInt, -1, 2, 1 << 32, math.MaxInt} {
						reads(t, m, "", api.ErrSeg, seg, at, n)
					}
				}
			}
			if got := all(t, m); !same(got, before) {
				t.Errorf("%+v, it was %+v", got, before)
			}
			m.Cut(0)
		}
	}
}

// P12.3: how many bytes are written, of each segment by itself; 0 of none.
func TestUsed(t *testing.T) {
	m := made(t, power.New(), 3, 9)
	for _, x := range []struct {
		seg, at int
		b       string
		used    [3]int
	}{
		{1, 0, "abc", [3]int{0, 3, 0}},
		{2, 0, "abcdefghi", [3]int{0, 3, 9}},
		{1, 3, "d", [3]int{0, 4, 9}},
		{2, 8, "", [3]int{0, 4, 8}},
		{0, 0, "", [3]int{0, 4, 8}},
		{0, 0, "x", [3]int{1, 4, 8}},
		{2, 0, "y", [3]int{1, 4, 1}},
	} {
		writes(t, m, api.OK, x.seg, x.at, x.b)
		if got := [3]int{m.Used(0), m.Used(1), m.Used(2)}; got != x.used {
			t.Errorf("behind %+v: %v", x, got)
		}
		for _, seg := range []int{math.MinInt, -1 << 32, -1, 3, 4, 1 << 32, math.MaxInt} {
			if n := m.Used(seg); n != 0 {
				t.Errorf("Used(%d): %d", seg, n)
			}
		}
		if m.Segments() != 3 || m.Size() != 9 {
			t.Errorf("%d segments of %d bytes", m.Segments(), m.Size())
		}
	}
}

// R4: what was handed in is not kept, and no two answers share their bytes.
func TestMemoryOfItsOwn(t *testing.T) {
	m := made(t, power.New(), 1, 9)
	b := string([]byte("abcdef"))
	writes(t, m, api.OK, 0, 0, b[2:5])
	first, _ := m.Read(0, 0, 3)
	second, _ := m.Read(0, 0, 3)
	kept := past(m)[0].Bytes
	if first != "cde" || second != "cde" || kept != "cde" {
		t.Fatalf("%q, %q, %q", first, second, kept)
	}
	places := map[*byte]bool{}
	for _, s := range []string{b[2:5], first, second, kept} {
		places[unsafe.StringData(s)] = true
	}
	if len(places) != 4 {
		t.Errorf("four rows of bytes lie at %d places", len(places))
	}
}
