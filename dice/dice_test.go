package dice

import (
	"math"
	"slices"
	"testing"

	"lethe/api"
)

const far = uint64(1) << 40

func made(t *testing.T, list []uint64) *Dice {
	t.Helper()
	d, e := New(list)
	if e != api.OK || d == nil {
		t.Fatalf("New of %d numbers: %v, %d", len(list), d, e)
	}
	return d
}

func draws(d *Dice, n int) []uint64 {
	var out []uint64
	for range n {
		out = append(out, d.Next())
	}
	return out
}

func rising(n int) []uint64 {
	out := make([]uint64, n)
	for i := range out {
		out[i] = uint64(i)
	}
	return out
}

// P1.1: the list's numbers come first, in order, whatever they are; behind them 2^40 + place.
func TestNextGivesTheListAndThenNewDraws(t *testing.T) {
	for _, x := range []struct {
		name string
		list []uint64
		want []uint64
	}{
		{"nil", nil, []uint64{far, far + 1, far + 2}},
		{"empty", []uint64{}, []uint64{far, far + 1, far + 2}},
		{"one", []uint64{5}, []uint64{5, far + 1, far + 2}},
		{"nought", []uint64{0}, []uint64{0, far + 1}},
		{"twice the same", []uint64{7, 7}, []uint64{7, 7, far + 2, far + 3}},
		{"falling", []uint64{9, 4, 1}, []uint64{9, 4, 1, far + 3}},
		{"greatest", []uint64{math.MaxUint64, 1 << 63}, []uint64{math.MaxUint64, 1 << 63, far + 2}},
		{"one that comes again behind the list", []uint64{far + 2, 3}, []uint64{far + 2, 3, far + 2, far + 3}},
	} {
		if got := draws(made(t, x.list), len(x.want)); !slices.Equal(got, x.want) {
			t.Errorf("%s: %v, want %v", x.name, got, x.want)
		}
	}
}

// P1.1: as many as MaxDraws may be, one more may not.
func TestNewAtTheLimit(t *testing.T) {
	d := made(t, rising(api.MaxDraws))
	if d.Taken() != 0 {
		t.Errorf("Taken of new dice: %d", d.Taken())
	}
	for i := range api.MaxDraws {
		if n := d.Next(); n != uint64(i) {
			t.Fatalf("draw %d: %d", i, n)
		}
	}
	if n := d.Next(); n != far+api.MaxDraws {
		t.Errorf("the first draw behind the longest list: %d", n)
	}
	for _, more := range []int{1, 2, api.MaxDraws} {
		if d, e := New(rising(api.MaxDraws + more)); d != nil || e != api.ErrLong {
			t.Errorf("New of MaxDraws and %d more: %v, %d", more, d, e)
		}
	}
}

// P1.1: Taken counts draws of the list and those behind it, and takes none itself.
func TestTakenCounts(t *testing.T) {
	for _, list := range [][]uint64{nil, {3}, {3, 3, 3}} {
		d := made(t, list)
		for i := range 6 {
			if d.Taken() != i || d.Taken() != i {
				t.Errorf("%v: Taken behind %d draws: %d", list, i, d.Taken())
			}
			d.Next()
		}
	}
}

// P1.1: a copy is as far on, at every place, and neither moves the other.
func TestCopyStandsByItself(t *testing.T) {
	list := []uint64{11, 12, 13}
	whole := draws(made(t, list), 10)
	for at := range 6 {
		d := made(t, list)
		draws(d, at)
		c := d.Copy()
		if c == d || c.Taken() != at || d.Taken() != at {
			t.Fatalf("copied at %d: %d and %d taken", at, d.Taken(), c.Taken())
		}
		if got := draws(c, 4); !slices.Equal(got, whole[at:at+4]) {
			t.Errorf("copied at %d, the copy: %v, want %v", at, got, whole[at:at+4])
		}
		if d.Taken() != at {
			t.Errorf("copied at %d: the copy's draws moved the first one to %d", at, d.Taken())
		}
		again := c.Copy()
		if got := draws(d, 2); !slices.Equal(got, whole[at:at+2]) {
			t.Errorf("copied at %d, the first one: %v, want %v", at, got, whole[at:at+2])
		}
		if c.Taken() != at+4 || again.Taken() != at+4 {
			t.Errorf("copied at %d: the first one's draws moved a copy: %d, %d", at, c.Taken(), again.Taken())
		}
		if n := again.Next(); n != whole[at+4] {
			t.Errorf("copied at %d, a copy of the copy: %d, want %d", at, n, whole[at+4])
		}
	}
}

// R4: what the caller does to its list is not seen, and the list and the room behind it stay as they were.
func TestListIsKeptAsACopy(t *testing.T) {
	room := []uint64{4, 3, 2, 77, 78}
	list := room[:3]
	d := made(t, list)
	c := d.Copy()
	list[0], list[1], list[2] = 90, 91, 92
	want := []uint64{4, 3, 2, far + 3, far + 4}
	if got := draws(d, 5); !slices.Equal(got, want) {
		t.Errorf("the caller's change is seen: %v", got)
	}
	if got := draws(c, 5); !slices.Equal(got, want) {
		t.Errorf("the caller's change is seen in the copy: %v", got)
	}
	if !slices.Equal(room, []uint64{90, 91, 92, 77, 78}) {
		t.Errorf("the caller's memory was written: %v", room)
	}
}

// R6: dice of the same list tell the same, whatever other dice did.
func TestDiceHangOnTheirListAlone(t *testing.T) {
	list := []uint64{8, 1, 8}
	a := made(t, list)
	first := draws(a, 9)
	b := made(t, list)
	draws(a, 5)
	if got := draws(b, 9); !slices.Equal(got, first) {
		t.Errorf("%v, then %v", first, got)
	}
}

// P1.2: each number unlike all others, and below 2^40 and how many there are.
func TestFresh(t *testing.T) {
	for _, x := range []struct {
		name string
		list []uint64
		want bool
	}{
		{"nil", nil, true},
		{"empty", []uint64{}, true},
		{"nought", []uint64{0}, true},
		{"two noughts", []uint64{0, 0}, false},
		{"falling", []uint64{3, 2, 1}, true},
		{"the same, side by side", []uint64{1, 7, 7}, false},
		{"the same, far apart", []uint64{7, 1, 2, 9, 7}, false},
		{"below 2^40", []uint64{far - 1}, true},
		{"2^40", []uint64{far}, true},
		{"2^40 + 1 of one", []uint64{far + 1}, false},
		{"2^40 + 1 of two", []uint64{far + 1, 0}, true},
		{"2^40 + 2 of two", []uint64{far + 2, 0}, false},
		{"2^40 + 2 of two, last", []uint64{0, far + 2}, false},
		{"the draws that would have come", []uint64{far, far + 1, far + 2}, true},
		{"these the other way round", []uint64{far + 2, far + 1, far}, true},
		{"one on", []uint64{far + 1, far + 2, far + 3}, false},
		{"never come to", []uint64{math.MaxUint64}, false},
		{"never come to, with others", []uint64{1, 1 << 63, 2}, false},
	} {
		if got := Fresh(x.list); got != x.want {
			t.Errorf("%s: %v", x.name, got)
		}
	}
}

// P1.2: of any list, also of one that New refuses.
func TestFreshOfLongLists(t *testing.T) {
	list := rising(api.MaxDraws + 1)
	if !Fresh(list) {
		t.Error("a long list of unlike numbers is not fresh")
	}
	list[0] = far + api.MaxDraws
	if !Fresh(list) {
		t.Error("a long list with the greatest number that may be is not fresh")
	}
	list[0] = far + api.MaxDraws + 1
	if Fresh(list) {
		t.Error("a long list with a number one too great is fresh")
	}
	list[0] = api.MaxDraws
	if Fresh(list) {
		t.Error("a long list with the same first and last number is fresh")
	}
}

// R4: Fresh leaves the list in its order, and the room behind it alone.
func TestFreshChangesNothing(t *testing.T) {
	room := []uint64{5, 3, 4, 1, 9, 8}
	Fresh(room[:4])
	if !slices.Equal(room, []uint64{5, 3, 4, 1, 9, 8}) {
		t.Errorf("the list was changed: %v", room)
	}
}

// P1.3: over all short lists of numbers that draws come to, a draw comes twice just if the list is not fresh.
func TestFreshMeansThatNoDrawComesTwice(t *testing.T) {
	numbers := []uint64{0, 1, far - 1, far, far + 1, far + 2, far + 3, far + 4, far + 5}
	lists := [][]uint64{nil}
	for from := 0; from < len(lists); from++ {
		list := lists[from]
		if len(list) < 4 {
			for _, n := range numbers {
				lists = append(lists, append(slices.Clone(list), n))
			}
		}
		all := draws(made(t, list), 12)
		slices.Sort(all)
		once := len(slices.Compact(all)) == 12
		if Fresh(list) != once {
			t.Errorf("%v: Fresh %v, but each draw once: %v", list, Fresh(list), once)
		}
	}
}

// P1.3: at the greatest length, too.
func TestFreshAtTheLimit(t *testing.T) {
	list := rising(api.MaxDraws)
	list[17] = far + api.MaxDraws - 1
	if !Fresh(list) {
		t.Fatal("not fresh")
	}
	all := draws(made(t, list), 2*api.MaxDraws)
	slices.Sort(all)
	if n := len(slices.Compact(all)); n != 2*api.MaxDraws {
		t.Errorf("%d of %d draws are unlike", n, 2*api.MaxDraws)
	}
}
