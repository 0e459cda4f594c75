package segment

import (
	"math"
	"testing"

	"lethe/api"
)

// filled is a log of segments of 4 bytes: 0 and 1 are sealed (3 and 4 bytes of them used), 2 is open (2 used), 3 is free, though written.
func filled(t *testing.T) *Log {
	t.Helper()
	l := made(t, 4, 4)
	l.Write(3, 0, "zzzz")
	appends(t, l, "abc", at(0, 0, 3))
	appends(t, l, "defg", at(1, 0, 4))
	appends(t, l, "hi", at(2, 0, 2))
	settles(t, l, api.OK, at(0, 1, 1), at(1, 0, 4), at(2, 0, 1))
	tells(t, l, accounts{"ssof", 2, []int{1, 4, 1, 0}})
	return l
}

// never are places that may not be in any log.
func never() []api.Place {
	l := []api.Place{
		{}, at(0, 0, 0), at(0, 1, 0), at(0, 0, -1), at(0, 3, -3), at(0, -1, 1), at(0, -1, 2), at(0, -1, 4), at(0, -4, 4), at(0, 5, -1),
		at(0, 0, math.MinInt), at(0, 0, math.MaxInt), at(0, 1, math.MaxInt), at(0, math.MaxInt, 1), at(0, math.MaxInt, math.MaxInt),
		at(0, math.MinInt, 1), at(0, math.MinInt, math.MinInt), at(0, math.MinInt, math.MaxInt), at(0, math.MaxInt, math.MinInt),
		at(0, 1<<32, 1), at(0, 0, 1<<32+1), at(0, 1<<62, 1<<62),
	}
	for _, seg := range append(far(), 4) {
		l = append(l, at(seg, 0, 1), at(seg, 0, 0))
	}
	return l
}

// P14.3: just the bytes of the places are live, whatever was ahead; and each sealed segment without any is free.
func TestSettle(t *testing.T) {
	for _, x := range []struct {
		live []api.Place
		want accounts
	}{
		{nil, accounts{"ffof", 2, []int{0, 0, 0, 0}}},
		{[]api.Place{}, accounts{"ffof", 2, []int{0, 0, 0, 0}}},
		{[]api.Place{at(0, 0, 1)}, accounts{"sfof", 2, []int{1, 0, 0, 0}}},
		{[]api.Place{at(0, 0, 3)}, accounts{"sfof", 2, []int{3, 0, 0, 0}}},
		{[]api.Place{at(0, 2, 1)}, accounts{"sfof", 2, []int{1, 0, 0, 0}}},
		{[]api.Place{at(1, 3, 1)}, accounts{"fsof", 2, []int{0, 1, 0, 0}}},
		{[]api.Place{at(2, 0, 2)}, accounts{"ffof", 2, []int{0, 0, 2, 0}}},
		{[]api.Place{at(2, 1, 1)}, accounts{"ffof", 2, []int{0, 0, 1, 0}}},
		{[]api.Place{at(1, 2, 2), at(1, 0, 2)}, accounts{"fsof", 2, []int{0, 4, 0, 0}}},
		{[]api.Place{at(1, 3, 1), at(1, 0, 1), at(0, 1, 2), at(1, 1, 2)}, accounts{"ssof", 2, []int{2, 4, 0, 0}}},
		{[]api.Place{at(2, 1, 1), at(1, 1, 1), at(0, 1, 1)}, accounts{"ssof", 2, []int{1, 1, 1, 0}}},
		{[]api.Place{at(0, 0, 3), at(1, 0, 4), at(2, 0, 2)}, accounts{"ssof", 2, []int{3, 4, 2, 0}}},
	} {
		l := filled(t)
		before := all(t, l)
		for range 2 {
			settles(t, l, api.OK, x.live...)
			tells(t, l, x.want)
		}
		after := all(t, l)
		before.free, before.sealed, before.kinds, before.lives = after.free, after.sealed, after.kinds, after.lives
		if !same(after, before) {
			t.Errorf("Settle(%v) did more: %+v, it was %+v", x.live, after, before)
		}
	}
}

// P14.3: no power is needed.
func TestSettleAndBeginWithoutPower(t *testing.T) {
	l := filled(t)
	l.Cut(0)
	settles(t, l, api.OK, at(1, 0, 1))
	tells(t, l, accounts{"fsof", 2, []int{0, 1, 0, 0}})
	begins(t, l, api.OK, 3, 4, at(0, 0, 1))
	tells(t, l, accounts{"sffo", 4, []int{1, 0, 0, 0}})
	if l.On() {
		t.Error("the power is on")
	}
}

// P14.3: a place that may not be, or that overlaps another one, wherever it stands in the row: nothing has changed.
func TestSettleIsRefused(t *testing.T) {
	l := filled(t)
	before := all(t, l)
	refused := func(live ...api.Place) {
		t.Helper()
		settles(t, l, api.ErrPlace, live...)
		stays(t, l, before)
	}
	wrong := append(never(),
		// Beyond what is used; in a free segment, though something is written there.
		at(0, 0, 4), at(0, 3, 1), at(0, 2, 2), at(1, 0, 5), at(1, 4, 1), at(1, 3, 2), at(2, 0, 3), at(2, 2, 1), at(2, 1, 2),
		at(3, 0, 1), at(3, 0, 4), at(3, 3, 1),
	)
	right := []api.Place{at(0, 0, 1), at(1, 0, 1), at(2, 1, 1)}
	for _, p := range wrong {
		refused(p)
		refused(append([]api.Place{p}, right...)...)
		refused(append(right[:2:2], p)...)
		refused(right[0], p, right[1])
	}
	for _, x := range overlapping() {
		refused(x...)
	}
}

// overlapping are rows of places in the segments 0 to 2 that may be, of which two overlap.
func overlapping() [][]api.Place {
	return [][]api.Place{
		{at(0, 0, 1), at(0, 0, 1)},
		{at(0, 0, 3), at(0, 0, 3)},
		{at(0, 0, 2), at(0, 1, 2)},
		{at(0, 1, 2), at(0, 0, 2)},
		{at(0, 0, 3), at(0, 1, 1)},
		{at(0, 1, 1), at(0, 0, 3)},
		{at(0, 2, 1), at(0, 0, 3)},
		{at(0, 0, 1), at(0, 0, 2)},
		{at(1, 0, 4), at(1, 3, 1)},
		{at(2, 0, 2), at(2, 1, 1)},
		{at(1, 2, 1), at(1, 0, 1), at(1, 1, 2)},
		{at(1, 0, 1), at(0, 0, 1), at(1, 1, 1), at(0, 1, 1), at(1, 0, 1)},
		{at(1, 0, 4), at(0, 0, 1), at(2, 0, 1), at(1, 1, 1), at(1, 2, 1)},
		{at(1, 0, 1), at(2, 0, 1), at(0, 0, 3), at(2, 1, 1), at(0, 2, 1), at(1, 1, 3)},
	}
}

// P14.3: all pairs of places in one segment, held against their bytes; places of different segments never overlap.
func TestAllPairs(t *testing.T) {
	var places []api.Place
	for off := range 4 {
		for n := 1; off+n <= 4; n++ {
			places = append(places, at(0, off, n))
		}
	}
	l := made(t, 2, 4)
	appends(t, l, "abcd", at(0, 0, 4))
	appends(t, l, "efgh", at(1, 0, 4))
	settles(t, l, api.OK, at(0, 0, 1))
	for _, a := range places {
		for _, b := range places {
			want, both := api.OK, 0
			for i := range 4 {
				if a.Off <= i && i < a.Off+a.Len && b.Off <= i && i < b.Off+b.Len {
					both++
				}
			}
			if both > 0 {
				want = api.ErrPlace
			}
			settles(t, l, want, a, b)
			begins(t, l, want, 1, 4, a, b)
			elsewhere := at(1, b.Off, b.Len)
			settles(t, l, api.OK, a, elsewhere)
			tells(t, l, accounts{"so", 4, []int{a.Len, b.Len}})
		}
	}
}

// P14.2, P14.3: what was appended is not live till it is settled; a sealed segment without live bytes stays sealed till then; the open one is never freed.
func TestLiveBySettleAlone(t *testing.T) {
	l := made(t, 3, 2)
	appends(t, l, "a", at(0, 0, 1))
	settles(t, l, api.OK, at(0, 0, 1))
	appends(t, l, "b", at(0, 1, 1))
	tells(t, l, accounts{"off", 2, []int{1, 0, 0}})
	appends(t, l, "cd", at(1, 0, 2))
	tells(t, l, accounts{"sof", 2, []int{1, 0, 0}})
	appends(t, l, "e", at(2, 0, 1))
	tells(t, l, accounts{"sso", 1, []int{1, 0, 0}})
	settles(t, l, api.ErrPlace, at(0, 0, 1), at(2, 1, 1))
	tells(t, l, accounts{"sso", 1, []int{1, 0, 0}})
	settles(t, l, api.OK, at(0, 1, 1))
	tells(t, l, accounts{"sfo", 1, []int{1, 0, 0}})
	settles(t, l, api.OK)
	tells(t, l, accounts{"ffo", 1, []int{0, 0, 0}})
	// What was freed has nothing used any more, and is written anew from its beginning on.
	settles(t, l, api.ErrPlace, at(0, 0, 1))
	appends(t, l, "fg", at(0, 0, 2))
	tells(t, l, accounts{"ofs", 2, []int{0, 0, 0}})
	settles(t, l, api.OK, at(0, 0, 2), at(2, 0, 1))
	appends(t, l, "h", at(1, 0, 1))
	tells(t, l, accounts{"sos", 1, []int{2, 0, 1}})
	settles(t, l, api.ErrPlace, at(1, 1, 1))
}

// P14.4: the open segment, and so much of it; each other one in which a place lies is sealed, with what is written there; all others are free.
func TestBegin(t *testing.T) {
	for _, x := range []struct {
		open, used int
		live       []api.Place
		want       accounts
	}{
		{0, 0, nil, accounts{"offf", 0, []int{0, 0, 0, 0}}},
		{0, 3, []api.Place{}, accounts{"offf", 3, []int{0, 0, 0, 0}}},
		{1, 0, nil, accounts{"foff", 0, []int{0, 0, 0, 0}}},
		{1, 4, nil, accounts{"foff", 4, []int{0, 0, 0, 0}}},
		{3, 0, nil, accounts{"fffo", 0, []int{0, 0, 0, 0}}},
		{3, 4, []api.Place{at(3, 0, 4)}, accounts{"fffo", 4, []int{0, 0, 0, 4}}},
		{3, 2, []api.Place{at(0, 2, 1), at(3, 1, 1)}, accounts{"sffo", 2, []int{1, 0, 0, 1}}},
		{2, 1, []api.Place{at(2, 0, 1), at(3, 0, 4), at(0, 0, 3)}, accounts{"sfos", 1, []int{3, 0, 1, 4}}},
		{2, 2, []api.Place{at(3, 3, 1), at(1, 0, 1), at(0, 1, 1)}, accounts{"ssos", 2, []int{1, 1, 0, 1}}},
		{1, 2, []api.Place{at(1, 1, 1), at(1, 0, 1), at(2, 1, 1)}, accounts{"fosf", 2, []int{0, 2, 1, 0}}},
	} {
		l := filled(t)
		before := all(t, l)
		for range 2 {
			begins(t, l, api.OK, x.open, x.used, x.live...)
			tells(t, l, x.want)
		}
		after := all(t, l)
		if open, used := l.Open(); open != x.open || used != x.used {
			t.Errorf("Open: %d, %d", open, used)
		}
		want := after
		want.written, want.past, want.on, want.left, want.writes = before.written, before.past, before.on, before.left, before.writes
		if !same(after, want) {
			t.Errorf("Begin(%d, %d, %v) did more: %+v, it was %+v", x.open, x.used, x.live, after, before)
		}
	}
}

// P14.4: of several errors the first one is told, and nothing has changed.
func TestBeginIsRefused(t *testing.T) {
	l := filled(t)
	before := all(t, l)
	refused := func(want api.Errno, open, used int, live ...api.Place) {
		t.Helper()
		begins(t, l, want, open, used, live...)
		stays(t, l, before)
	}
	for _, open := range append(far(), 4) {
		refused(api.ErrSeg, open, 0)
		refused(api.ErrSeg, open, -1, at(9, 9, 9))
		refused(api.ErrSeg, open, 1, at(0, 0, 1))
	}
	for open, most := range []int{3, 4, 2, 4} {
		for _, used := range []int{math.MinInt, -1 << 32, -1, most + 1, 5, 1 << 32, math.MaxInt} {
			refused(api.ErrPlace, open, used)
			refused(api.ErrPlace, open, used, at(0, 0, 1))
		}
	}
	wrong := append(never(), at(0, 0, 4), at(0, 3, 1), at(1, 1, 4), at(3, 0, 5), at(3, 4, 1), at(2, 1, 1), at(2, 0, 2), at(2, 1, 2))
	for _, p := range wrong {
		refused(api.ErrPlace, 2, 1, p)
		refused(api.ErrPlace, 2, 1, p, at(1, 0, 1))
		refused(api.ErrPlace, 2, 1, at(1, 0, 1), at(2, 0, 1), p)
		refused(api.ErrPlace, 3, 0, at(1, 0, 1), at(3, 0, 1), p)
	}
	for _, x := range overlapping() {
		refused(api.ErrPlace, 3, 0, x...)
		refused(api.ErrPlace, 2, 2, x...)
	}
	refused(api.ErrPlace, 0, 0, at(3, 1, 2), at(3, 2, 1))
}

// P14.4: nothing is written in a new medium's segments, so nothing can be used there.
func TestBeginOnNothing(t *testing.T) {
	l := made(t, 3, 4)
	begins(t, l, api.ErrPlace, 0, 1)
	begins(t, l, api.ErrPlace, 0, 0, at(1, 0, 1))
	begins(t, l, api.OK, 2, 0)
	tells(t, l, accounts{"ffo", 0, []int{0, 0, 0}})
	appends(t, l, "abcd", at(2, 0, 4))
	appends(t, l, "e", at(0, 0, 1))
}

// P14.4: what is used of a segment is what was written there when it was begun: appended is behind that, settled within it.
func TestBehindBegin(t *testing.T) {
	l := filled(t)
	begins(t, l, api.OK, 1, 1, at(3, 0, 2), at(0, 2, 1), at(1, 0, 1))
	tells(t, l, accounts{"sofs", 1, []int{1, 1, 0, 2}})
	appends(t, l, "xy", at(1, 1, 2))
	if s, _ := l.Read(1, 0, l.Used(1)); s != "dxy" {
		t.Errorf("%q is written", s)
	}
	settles(t, l, api.ErrPlace, at(1, 3, 1))
	settles(t, l, api.ErrPlace, at(0, 3, 1))
	settles(t, l, api.ErrPlace, at(2, 0, 1))
	settles(t, l, api.OK, at(3, 0, 4), at(0, 0, 3), at(1, 0, 3))
	tells(t, l, accounts{"sofs", 3, []int{3, 3, 0, 4}})
	// Raw writes past the log change nothing of what is used.
	l.Write(3, 1, "")
	l.Write(0, 3, "z")
	settles(t, l, api.ErrPlace, at(0, 0, 4))
	settles(t, l, api.OK, at(3, 0, 4), at(0, 0, 3))
	appends(t, l, "uv", at(2, 0, 2))
	tells(t, l, accounts{"ssos", 2, []int{3, 0, 0, 4}})
	// The segment that was open at Begin may be a free, a sealed or the open one.
	for _, open := range []int{2, 0, 3} {
		begins(t, l, api.OK, open, 1)
		if now, used := l.Open(); now != open || used != 1 {
			t.Errorf("Open: %d, %d", now, used)
		}
	}
}
