package commit

import (
	"slices"
	"strings"
	"testing"

	"lethe/api"
	"lethe/cell"
	"lethe/power"
)

// The chapter's examples, one row behind the other.
func TestExamples(t *testing.T) {
	r := example()
	s, err := Bytes(record(0, r, 0, 6))
	if s != string([]byte{5, 7, 1, 0, 3, 7, 1, 0, 1, 0, 1, 6, 1, 0, 1, 6}) || err != api.OK {
		t.Errorf("Bytes: % x, %d", s, err)
	}
	if got, err := Parse(s); got != record(0, r, 0, 6) || err != api.OK {
		t.Errorf("Parse: %v, %d", got, err)
	}
	if got, err := Parse("hello"); got != (api.Record{}) || err != api.ErrRecord {
		t.Errorf("Parse of hello: %v, %d", got, err)
	}
	if s, err := Bytes(record(-1, r, 0, 6)); s != "" || err != api.ErrRecord {
		t.Errorf("Bytes of the number -1: % x, %d", s, err)
	}

	c := newCell(t)
	noNow(t, c, api.ErrLost)
	noNext(t, c, r, 0, 6, api.ErrLost)
	stale(t, c, false, api.OK)
	first(t, c, r, 0, 6)
	noFirst(t, c, r, 0, 6, api.ErrSet)
	now(t, c, record(0, r, 0, 6), 0)

	next(t, c, r, 1, 2, record(1, r, 1, 2))
	if l := c.Slots(); !slices.Equal(l, []int{1}) {
		t.Errorf("Slots: %v", l)
	}

	c.Cut(1)
	noNext(t, c, r, 2, 0, api.ErrPower)
	if l := c.Slots(); !slices.Equal(l, []int{0, 1}) {
		t.Errorf("Slots: %v", l)
	}
	now(t, c, record(2, r, 2, 0), 0)

	stale(t, c, false, api.ErrPower)
	c.Restore()
	noNext(t, c, r, 2, 0, api.ErrTwo)
	stale(t, c, true, api.OK)
	if l := c.Slots(); !slices.Equal(l, []int{0}) {
		t.Errorf("Slots: %v", l)
	}
}

// 'Errors': the numbers of those that there are.
func TestErrors(t *testing.T) {
	if _, err := Parse(""); err != 170 {
		t.Errorf("Parse of nothing: %d", err)
	}
	if _, err := Bytes(api.Record{}); err != 170 {
		t.Errorf("Bytes of the empty record: %d", err)
	}
	c, r := newCell(t), example()
	noNow(t, c, 171)
	noNext(t, c, r, 0, 6, 171)
	noFirst(t, c, api.Ref{}, 0, 6, 170)
	first(t, c, r, 0, 6)
	noFirst(t, c, r, 0, 6, 131)
	noNext(t, c, api.Ref{}, 0, 6, 170)
	c.Cut(1)
	noNext(t, c, r, 0, 6, 110)
	noNext(t, c, r, 0, 6, 172)
	stale(t, c, false, 110)

	c = newCell(t)
	c.Cut(0)
	noFirst(t, c, r, 0, 6, 110)
}

// contents are what a slot may have: nothing, records of several numbers and trees, and bytes that are no record's.
func contents() []string {
	l := []string{"", "hello", "\x00", bytesOf(record(-1, example(), 0, 6)), bytesOf(record(lastNumber+1, example(), 0, 6)), bytesOf(record(9, api.Ref{}, 0, 6)), strings.Repeat("x", api.MaxCell)}
	for _, n := range []int{0, 1, 2, 255, 256, lastNumber - 1, lastNumber} {
		l = append(l, bytesOf(record(n, example(), 0, 6)), bytesOf(record(n, ref(9, 1, 2, 3), 1, 0)))
	}
	return l
}

// pairs calls look with cells of all contents of both slots, and of all powers: ever on, with a cut ahead, and off.
func pairs(t *testing.T, look func(c *cell.Cell, m *plain)) {
	t.Helper()
	for _, a := range contents() {
		for _, b := range contents() {
			for cut := -1; cut <= 2; cut++ {
				c := filled(t, [2]string{a, b})
				c.Cut(cut)
				m := newPlain()
				for slot, has := range []string{a, b} {
					if has != "" {
						m.write(slot, has)
					}
				}
				m.power.Cut(cut)
				look(c, m)
			}
		}
	}
}

// P17.2: of all that two slots may have that is told which the words say; asking needs no power, and changes nothing.
func TestNow(t *testing.T) {
	pairs(t, func(c *cell.Cell, m *plain) {
		for range 2 {
			want, at, wantErr := m.now()
			if r, slot, err := Now(c); r != want || slot != at || err != wantErr {
				t.Fatalf("Now of %q: %v, %d, %d, want %v, %d, %d", m.has, r, slot, err, want, at, wantErr)
			}
			stays(t, c, m.told())
		}
	})
}

// P17.2: the same once more, pair by pair.
func TestNowOfTwo(t *testing.T) {
	a, b := record(4, example(), 0, 6), record(4, ref(8, 1, 2, 3), 1, 5)
	later := record(5, ref(9, 0, 6, 7), 0, 13)
	bad := bytesOf(record(6, example(), -1, 6))
	for _, x := range []struct {
		name string
		has  [2]string
		want api.Record
		slot int
		err  api.Errno
	}{
		{"both empty", [2]string{}, api.Record{}, 0, 171},
		{"the first alone", [2]string{bytesOf(a), ""}, a, 0, 0},
		{"the second alone", [2]string{"", bytesOf(a)}, a, 1, 0},
		{"the first alone, bad", [2]string{bad, ""}, api.Record{}, 0, 170},
		{"the second alone, bad", [2]string{"", bad}, api.Record{}, 0, 170},
		{"both bad", [2]string{bad, "hello"}, api.Record{}, 0, 170},
		{"the first later", [2]string{bytesOf(later), bytesOf(a)}, later, 0, 0},
		{"the second later", [2]string{bytesOf(a), bytesOf(later)}, later, 1, 0},
		{"of equal numbers", [2]string{bytesOf(a), bytesOf(b)}, a, 0, 0},
		{"of equal numbers, the other way", [2]string{bytesOf(b), bytesOf(a)}, b, 0, 0},
		{"the same twice", [2]string{bytesOf(a), bytesOf(a)}, a, 0, 0},
		{"the first bad", [2]string{bad, bytesOf(a)}, a, 1, 0},
		{"the second bad", [2]string{bytesOf(a), bad}, a, 0, 0},
		{"the first bad, number 0", [2]string{bad, bytesOf(record(0, example(), 0, 6))}, record(0, example(), 0, 6), 1, 0},
	} {
		r, slot, err := Now(filled(t, x.has))
		if r != x.want || slot != x.slot || err != x.err {
			t.Errorf("%s: %v, %d, %d", x.name, r, slot, err)
		}
	}
}

// P17.3: the record of the number 0 in the slot 0, by one raw write.
func TestFirst(t *testing.T) {
	for _, r := range edges() {
		c := newCell(t)
		r.Number = 0
		first(t, c, r.Root, r.Open, r.Used)
		stays(t, c, told{has: [2]string{bytesOf(r), ""}, set: []int{0}, count: 1, on: true, left: -1, writes: 1})
		now(t, c, r, 0)
	}
	// All slots may have been set and erased.
	c := filled(t, [2]string{"hello", "x"})
	c.Erase(0)
	c.Erase(1)
	r := first(t, c, example(), 0, 6)
	hasSlots(t, c, bytesOf(r), "")
}

// P17.3, R3: of several errors the first one; and nothing has changed.
func TestFirstRefuses(t *testing.T) {
	good := bytesOf(record(0, example(), 0, 6))
	for _, has := range [][2]string{{good, ""}, {"", good}, {good, good}, {"hello", ""}, {"", "hello"}, {"hello", good}} {
		for _, cut := range []int{-1, 0, 1} {
			for _, r := range append(noRecords(), edges()...) {
				c := filled(t, has)
				c.Cut(cut)
				before := all(c)
				noFirst(t, c, r.Root, r.Open, r.Used, api.ErrSet)
				stays(t, c, before)
			}
		}
	}
	for _, cut := range []int{-1, 0, 1} {
		c := newCell(t)
		c.Cut(cut)
		before := all(c)
		for _, r := range noRecords() {
			r.Number = 0
			if isRecord(r) {
				continue
			}
			noFirst(t, c, r.Root, r.Open, r.Used, api.ErrRecord)
			stays(t, c, before)
		}
	}
	c := newCell(t)
	c.Cut(0)
	before := all(c)
	noFirst(t, c, example(), 0, 6, api.ErrPower)
	stays(t, c, before)
	c.Restore()
	c.Cut(1)
	first(t, c, example(), 0, 6)
	now(t, c, record(0, example(), 0, 6), 0)
}

// P17.4: one number behind the other, each in the slot that was empty, by two raw writes; whatever slot it begins in.
func TestNext(t *testing.T) {
	for begin := range 2 {
		old := record(40, example(), 0, 6)
		var has [2]string
		has[begin] = bytesOf(old)
		c := filled(t, has)
		slot := begin
		for i, r := range edges() {
			r.Number = 41 + i
			next(t, c, r.Root, r.Open, r.Used, r)
			has, slot = [2]string{}, 1-slot
			has[slot] = bytesOf(r)
			stays(t, c, told{has: has, set: []int{slot}, count: 3 + 2*i, on: true, left: -1, writes: 3 + 2*i})
			now(t, c, r, slot)
			stale(t, c, false, api.OK)
		}
	}
}

// P17.4: the last number is come to, and not gone beyond.
func TestNextAtTheLastNumber(t *testing.T) {
	for begin := range 2 {
		var has [2]string
		has[begin] = bytesOf(record(lastNumber-1, example(), 0, 6))
		c := filled(t, has)
		last := record(lastNumber, ref(8, 0, 6, 7), 0, 13)
		next(t, c, last.Root, 0, 13, last)
		before := all(c)
		noNext(t, c, ref(9, 0, 13, 7), 0, 20, api.ErrRecord)
		c.Cut(0)
		noNext(t, c, ref(9, 0, 13, 7), 0, 20, api.ErrRecord)
		c.Restore()
		stays(t, c, before)
		now(t, c, last, 1-begin)
	}
}

// P17.4, R3: of several errors the first one; and nothing has changed.
func TestNextRefuses(t *testing.T) {
	good := bytesOf(record(3, example(), 0, 6))
	for _, cut := range []int{-1, 0, 1, 2} {
		refused := func(has [2]string, r api.Record, want api.Errno) {
			t.Helper()
			c := filled(t, has)
			c.Cut(cut)
			before := all(c)
			noNext(t, c, r.Root, r.Open, r.Used, want)
			stays(t, c, before)
		}
		for _, r := range append(noRecords(), edges()...) {
			for _, has := range [][2]string{{good, good}, {good, "hello"}, {"hello", good}, {"hello", "x"}} {
				refused(has, r, api.ErrTwo)
			}
			refused([2]string{}, r, api.ErrLost)
			refused([2]string{"hello", ""}, r, api.ErrRecord)
			refused([2]string{"", "hello"}, r, api.ErrRecord)
			r.Number = 4
			if !isRecord(r) {
				refused([2]string{good, ""}, r, api.ErrRecord)
				refused([2]string{"", good}, r, api.ErrRecord)
			}
		}
	}
}

// P17.5: of two slots that one is erased that Now doesn't tell of; else nothing is done.
func TestStale(t *testing.T) {
	erased := 0
	pairs(t, func(c *cell.Cell, m *plain) {
		before, slot, _ := m.now()
		was, err := Stale(c)
		if want, wantErr := m.stale(); was != want || err != wantErr {
			t.Fatalf("Stale of %q: %v, %d, want %v, %d", m.has, was, err, want, wantErr)
		}
		stays(t, c, m.told())
		if was {
			erased++
			now(t, c, before, slot)
			stale(t, c, false, api.OK)
			stays(t, c, m.told())
		}
	})
	if erased == 0 {
		t.Error("nothing was ever erased")
	}
}

// R6: cells of the same slots answer the same, whatever was called on them, or on others, before.
func TestNothingIsKept(t *testing.T) {
	p := power.New()
	a, b := cell.New(p), cell.New(p)
	first(t, a, example(), 0, 6)
	noNow(t, b, api.ErrLost)
	noNext(t, b, example(), 0, 6, api.ErrLost)
	next(t, a, example(), 0, 12, record(1, example(), 0, 12))
	first(t, b, ref(9, 0, 0, 6), 0, 6)
	next(t, a, example(), 0, 18, record(2, example(), 0, 18))
	now(t, b, record(0, ref(9, 0, 0, 6), 0, 6), 0)
	next(t, b, example(), 0, 12, record(1, example(), 0, 12))
	now(t, a, record(2, example(), 0, 18), 0)

	// What was erased past this package is known by it, too.
	a.Erase(0)
	noNow(t, a, api.ErrLost)
	first(t, a, example(), 3, 3)
	now(t, a, record(0, example(), 3, 3), 0)
}
