package commit

import (
	"encoding/binary"
	"fmt"
	"math"
	"slices"
	"strings"
	"testing"

	"lethe/api"
	"lethe/cell"
	"lethe/power"
)

// The greatest numbers that a record may have, by the chapter's words.
const (
	lastNumber = 2147483647
	lastSeg    = 1048576
	lastOff    = 134217728
	lastLen    = 1048576
)

func ref(key uint64, seg, off, n int) api.Ref { return api.Ref{Key: key, Seg: seg, Off: off, Len: n} }

func record(number int, root api.Ref, open, used int) api.Record {
	return api.Record{Number: number, Root: root, Open: open, Used: used}
}

// example is the chapter's reference.
func example() api.Ref { return ref(7, 0, 0, 6) }

// edges are records that may just be, each field at the least, the greatest, and where its bytes become more.
func edges() []api.Record {
	var l []api.Record
	one := func(change func(r *api.Record)) {
		r := record(3, ref(4, 5, 6, 7), 8, 9)
		change(&r)
		l = append(l, r)
	}
	upTo := func(last int, change func(r *api.Record, n int)) {
		for _, n := range []int{0, 1, 127, 128, 255, 256, 16383, 16384, last / 2, last - 1, last} {
			one(func(r *api.Record) { change(r, n) })
		}
	}
	upTo(lastNumber, func(r *api.Record, n int) { r.Number = n })
	upTo(lastSeg, func(r *api.Record, n int) { r.Root.Seg = n })
	upTo(lastOff, func(r *api.Record, n int) { r.Root.Off = n })
	upTo(lastLen, func(r *api.Record, n int) { r.Root.Len = max(n, 1) })
	upTo(lastSeg, func(r *api.Record, n int) { r.Open = n })
	upTo(lastOff, func(r *api.Record, n int) { r.Used = n })
	for _, key := range []uint64{0, 1, 127, 128, 1 << 31, 1 << 32, 1 << 40, 1<<63 - 1, 1 << 63, math.MaxUint64} {
		one(func(r *api.Record) { r.Root.Key = key })
	}
	least := record(0, ref(0, 0, 0, 1), 0, 0)
	greatest := record(lastNumber, ref(math.MaxUint64, lastSeg, lastOff, lastLen), lastSeg, lastOff)
	return append(l, least, greatest)
}

// beyond are numbers that are no field's: less than all, and more than the greatest.
func beyond(last int) []int {
	return []int{-1, -2, -last, math.MinInt32, -1 << 32, math.MinInt, last + 1, last + 2, 1 << 31, 1 << 32, 1<<32 + 1, 1<<32 + last, math.MaxInt}
}

// noRecords may not be: one field is too little or too great, or all of them are.
func noRecords() []api.Record {
	l := []api.Record{{}, record(-1, ref(0, -1, -1, -1), -1, -1), record(math.MaxInt, ref(1, math.MaxInt, math.MaxInt, math.MaxInt), math.MaxInt, math.MaxInt)}
	bad := func(last int, change func(r *api.Record, n int)) {
		for _, n := range beyond(last) {
			r := record(3, ref(4, 5, 6, 7), 8, 9)
			change(&r, n)
			l = append(l, r)
		}
	}
	bad(lastNumber, func(r *api.Record, n int) { r.Number = n })
	bad(lastSeg, func(r *api.Record, n int) { r.Root.Seg = n })
	bad(lastOff, func(r *api.Record, n int) { r.Root.Off = n })
	bad(lastLen, func(r *api.Record, n int) { r.Root.Len = n })
	bad(lastSeg, func(r *api.Record, n int) { r.Open = n })
	bad(lastOff, func(r *api.Record, n int) { r.Used = n })
	return append(l, record(3, ref(4, 5, 6, 0), 8, 9))
}

// sevens is a number in sevens, by chapter 2's words.
func sevens(n uint64) string {
	var b []byte
	for ; n > 127; n /= 128 {
		b = append(b, byte(n%128+128))
	}
	return string(append(b, byte(n)))
}

func number(n uint64) string { return "\x01" + sevens(n) }

func keyOf(n uint64) string { return "\x03" + sevens(n) }

func row(terms ...string) string {
	return "\x05" + sevens(uint64(len(terms))) + strings.Join(terms, "")
}

// partsOf are the bytes of each term in a record's row, bytesOf those of the whole, by the chapter's words.
func partsOf(r api.Record) []string {
	l := []string{number(uint64(r.Number)), keyOf(r.Root.Key)}
	for _, n := range []int{r.Root.Seg, r.Root.Off, r.Root.Len, r.Open, r.Used} {
		l = append(l, number(uint64(n)))
	}
	return l
}

func bytesOf(r api.Record) string { return row(partsOf(r)...) }

// isRecord tells whether a record may be, by the chapter's words.
func isRecord(r api.Record) bool {
	return r.Number >= 0 && r.Number <= lastNumber &&
		r.Root.Seg >= 0 && r.Root.Seg <= lastSeg && r.Root.Off >= 0 && r.Root.Off <= lastOff && r.Root.Len >= 1 && r.Root.Len <= lastLen &&
		r.Open >= 0 && r.Open <= lastSeg && r.Used >= 0 && r.Used <= lastOff
}

// parsed is the record that bytes are, by the chapter's words; false, if they are none's.
func parsed(s string) (api.Record, bool) {
	rest, ok := strings.CutPrefix(s, "\x05\x07")
	var l []uint64
	for _, kind := range []byte{1, 3, 1, 1, 1, 1, 1} {
		if !ok || rest == "" || rest[0] != kind {
			return api.Record{}, false
		}
		n, size := binary.Uvarint([]byte(rest[1:]))
		ok = size > 0 && sevens(n) == rest[1:1+size] && (kind == 3 || n <= lastNumber)
		l, rest = append(l, n), rest[1+max(size, 0):]
	}
	if !ok || rest != "" {
		return api.Record{}, false
	}
	r := record(int(l[0]), ref(l[1], int(l[2]), int(l[3]), int(l[4])), int(l[5]), int(l[6]))
	if !isRecord(r) {
		return api.Record{}, false
	}
	return r, true
}

func newCell(t *testing.T) *cell.Cell {
	t.Helper()
	c := cell.New(power.New())
	if c == nil {
		t.Fatal("a new cell: nil")
	}
	return c
}

// filled is a cell whose slots have these bytes; a slot of none is empty.
func filled(t *testing.T, has [2]string) *cell.Cell {
	t.Helper()
	c := newCell(t)
	for slot, b := range has {
		if b == "" {
			continue
		}
		if err := c.Set(slot, b); err != api.OK {
			t.Fatalf("Set(%d, %q): %d", slot, b, err)
		}
	}
	return c
}

// told is all that a cell tells.
type told struct {
	has          [2]string // of each slot; none, if it is empty
	set          []int
	count        int
	on           bool
	left, writes int
}

func all(c *cell.Cell) told {
	x := told{set: c.Slots(), count: c.Count(), on: c.On(), left: c.Left(), writes: c.Writes()}
	for slot := range x.has {
		x.has[slot], _ = c.Get(slot)
	}
	return x
}

func (x told) is(y told) bool {
	return x.has == y.has && slices.Equal(x.set, y.set) && x.count == y.count && x.on == y.on && x.left == y.left && x.writes == y.writes
}

func (x told) String() string {
	return fmt.Sprintf("slots %q, set %v, count %d, on %v, left %d, writes %d", x.has, x.set, x.count, x.on, x.left, x.writes)
}

// stays holds all that a cell tells against what it must.
func stays(t *testing.T, c *cell.Cell, want told) {
	t.Helper()
	if got := all(c); !got.is(want) {
		t.Fatalf("%v, want %v", got, want)
	}
}

// hasSlots holds the slots' bytes against what they must be.
func hasSlots(t *testing.T, c *cell.Cell, want ...string) {
	t.Helper()
	if got := all(c).has; !slices.Equal(got[:], want) {
		t.Fatalf("slots: %q, want %q", got, want)
	}
}

// now, noNow, first, noFirst, next, noNext and stale do a call that must be answered so.
func now(t *testing.T, c *cell.Cell, want api.Record, slot int) {
	t.Helper()
	if r, at, err := Now(c); r != want || at != slot || err != api.OK {
		t.Fatalf("Now: %v, %d, %d, want %v, %d", r, at, err, want, slot)
	}
}

func noNow(t *testing.T, c *cell.Cell, want api.Errno) {
	t.Helper()
	if r, at, err := Now(c); r != (api.Record{}) || at != 0 || err != want {
		t.Fatalf("Now: %v, %d, %d, want %d", r, at, err, want)
	}
}

func first(t *testing.T, c *cell.Cell, root api.Ref, open, used int) api.Record {
	t.Helper()
	want := record(0, root, open, used)
	if r, err := First(c, root, open, used); r != want || err != api.OK {
		t.Fatalf("First: %v, %d, want %v", r, err, want)
	}
	return want
}

func noFirst(t *testing.T, c *cell.Cell, root api.Ref, open, used int, want api.Errno) {
	t.Helper()
	if r, err := First(c, root, open, used); r != (api.Record{}) || err != want {
		t.Fatalf("First: %v, %d, want %d", r, err, want)
	}
}

func next(t *testing.T, c *cell.Cell, root api.Ref, open, used int, want api.Record) {
	t.Helper()
	if r, err := Next(c, root, open, used); r != want || err != api.OK {
		t.Fatalf("Next: %v, %d, want %v", r, err, want)
	}
}

func noNext(t *testing.T, c *cell.Cell, root api.Ref, open, used int, want api.Errno) {
	t.Helper()
	if r, err := Next(c, root, open, used); r != (api.Record{}) || err != want {
		t.Fatalf("Next: %v, %d, want %d", r, err, want)
	}
}

func stale(t *testing.T, c *cell.Cell, want bool, wantErr api.Errno) {
	t.Helper()
	if was, err := Stale(c); was != want || err != wantErr {
		t.Fatalf("Stale: %v, %d, want %v, %d", was, err, want, wantErr)
	}
}

// plain is the chapter's words, one by one, on a power of its own.
type plain struct {
	power *power.Power
	has   [2]string
	count int
}

func newPlain() *plain { return &plain{power: power.New()} }

func (m *plain) told() told {
	x := told{has: m.has, count: m.count, on: m.power.On(), left: m.power.Left(), writes: m.power.Writes()}
	for slot, b := range m.has {
		if b != "" {
			x.set = append(x.set, slot)
		}
	}
	return x
}

// write is a raw write of the cell: of no bytes the slot is empty then.
func (m *plain) write(slot int, b string) api.Errno {
	if m.power.Spend() != 0 {
		return 110
	}
	m.has[slot] = b
	m.count++
	return 0
}

func (m *plain) set(slot int, b string) api.Errno {
	if m.has[slot] != "" {
		return 131
	}
	return m.write(slot, b)
}

func (m *plain) erase(slot int) api.Errno {
	if m.has[slot] == "" {
		return 132
	}
	return m.write(slot, "")
}

func (m *plain) now() (api.Record, int, api.Errno) {
	a, takesA := parsed(m.has[0])
	b, takesB := parsed(m.has[1])
	switch {
	case m.has[0] == "" && m.has[1] == "":
		return api.Record{}, 0, 171
	case takesA && takesB && b.Number > a.Number:
		return b, 1, 0
	case takesA:
		return a, 0, 0
	case takesB:
		return b, 1, 0
	}
	return api.Record{}, 0, 170
}

func (m *plain) first(r api.Record) (api.Record, api.Errno) {
	r.Number = 0
	switch {
	case m.has[0] != "" || m.has[1] != "":
		return api.Record{}, 131
	case !isRecord(r):
		return api.Record{}, 170
	}
	if err := m.write(0, bytesOf(r)); err != 0 {
		return api.Record{}, err
	}
	return r, 0
}

func (m *plain) next(r api.Record) (api.Record, api.Errno) {
	if m.has[0] != "" && m.has[1] != "" {
		return api.Record{}, 172
	}
	old, slot, err := m.now()
	if err != 0 {
		return api.Record{}, err
	}
	r.Number = old.Number + 1
	if !isRecord(r) {
		return api.Record{}, 170
	}
	if err := m.write(1-slot, bytesOf(r)); err != 0 {
		return api.Record{}, err
	}
	if err := m.write(slot, ""); err != 0 {
		return api.Record{}, err
	}
	return r, 0
}

func (m *plain) stale() (bool, api.Errno) {
	if m.has[0] == "" || m.has[1] == "" {
		return false, 0
	}
	_, slot, err := m.now()
	if err == 0 {
		err = m.write(1-slot, "")
	}
	return err == 0, err
}
