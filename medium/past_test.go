package medium

import (
	"slices"
	"testing"

	"lethe/api"
	"lethe/power"
)

// history are raw writes of all kinds, for two segments of four bytes.
func history() []api.Raw {
	return []api.Raw{
		{Seg: 1, At: 0, Bytes: "abcd"}, {Seg: 0, At: 0, Bytes: "ab"}, {Seg: 0, At: 2, Bytes: ""},
		{Seg: 1, At: 2, Bytes: "Z"}, {Seg: 1, At: 3, Bytes: "Z"}, {Seg: 1, At: 3, Bytes: "Z"},
		{Seg: 0, At: 0, Bytes: ""}, {Seg: 0, At: 0, Bytes: "\x00\xff"},
	}
}

// P12.4: all raw writes, in order, each as it was done; none that was refused; how many, and of how many bytes.
func TestPast(t *testing.T) {
	m := small(t)
	if past(m) != nil || m.Count() != 0 || m.Bytes() != 0 {
		t.Errorf("a new one: %+v", all(t, m))
	}
	bytes := 0
	for i, raw := range history() {
		writes(t, m, api.OK, raw.Seg, raw.At, raw.Bytes)
		writes(t, m, api.ErrSeg, 2, 0, "x")
		writes(t, m, api.ErrPlace, raw.Seg, 5, "x")
		writes(t, m, api.ErrRoom, raw.Seg, 0, "vwxyz")
		bytes += len(raw.Bytes)
		for range 2 {
			if got := past(m); !slices.Equal(got, history()[:i+1]) || m.Count() != i+1 || m.Bytes() != bytes {
				t.Fatalf("behind %d: %v, %d, %d", i+1, got, m.Count(), m.Bytes())
			}
		}
	}
	m.Cut(0)
	writes(t, m, api.ErrPower, 0, 0, "x")
	if got := past(m); !slices.Equal(got, history()) || m.Count() != 8 || m.Bytes() != bytes {
		t.Errorf("without power: %v, %d, %d", got, m.Count(), m.Bytes())
	}
}

// P12.4, 'Ways': who goes over it may stop anywhere, begin anew, and go over it within going over it.
func TestPastIsGoneOverInAnyWay(t *testing.T) {
	m := small(t)
	for _, raw := range history() {
		writes(t, m, api.OK, raw.Seg, raw.At, raw.Bytes)
	}
	seq := m.Past()
	for stop := range len(history()) + 1 {
		var got []api.Raw
		for raw := range seq {
			if len(got) == stop {
				break
			}
			got = append(got, raw)
			if inner := past(m); !slices.Equal(inner, history()) {
				t.Fatalf("within: %v", inner)
			}
		}
		if !slices.Equal(got, history()[:stop]) {
			t.Errorf("stopped at %d: %v", stop, got)
		}
	}
	if got := slices.Collect(seq); !slices.Equal(got, history()) {
		t.Errorf("gone over once more: %v", got)
	}
}

// P12.4, R1, R6: what Past answered tells of the writes ahead of that call, however it is gone over; so it ends, for one who writes at each step, too.
func TestWritesWhileThePastIsGoneOver(t *testing.T) {
	m := small(t)
	none := m.Past()
	writes(t, m, api.OK, 0, 0, "a")
	writes(t, m, api.OK, 1, 0, "b")
	seq := m.Past()
	writes(t, m, api.OK, 0, 0, "c")
	steps := 0
	for raw := range seq {
		steps++
		writes(t, m, api.OK, raw.Seg, raw.At+1, "d")
		if steps > 100 {
			t.Fatal("it does not end")
		}
	}
	if steps != 2 || m.Count() != 5 || m.Bytes() != 5 {
		t.Errorf("%d steps, %d raw writes of %d bytes", steps, m.Count(), m.Bytes())
	}
	if got := slices.Collect(none); got != nil {
		t.Errorf("asked for ahead of all: %v", got)
	}
	if got := slices.Collect(seq); !slices.Equal(got, []api.Raw{{Seg: 0, Bytes: "a"}, {Seg: 1, Bytes: "b"}}) {
		t.Errorf("asked for ahead of the last ones: %v", got)
	}
	want := []api.Raw{{Bytes: "a"}, {Seg: 1, Bytes: "b"}, {Bytes: "c"}, {At: 1, Bytes: "d"}, {Seg: 1, At: 1, Bytes: "d"}}
	if got := past(m); !slices.Equal(got, want) {
		t.Errorf("asked for behind all: %v", got)
	}
}

// P12.4: raw writes without bytes are told, too.
func TestPastOfEmptyWrites(t *testing.T) {
	m := small(t)
	for range 5 {
		writes(t, m, api.OK, 1, 0, "")
	}
	if m.Count() != 5 || m.Bytes() != 0 || m.Writes() != 5 || len(past(m)) != 5 {
		t.Errorf("%+v", all(t, m))
	}
}

// P12.5: of writes behind a cut just the first n are done that are not refused otherwise; behind Restore all.
func TestJustSoManyWrites(t *testing.T) {
	done := history()
	for n := range len(done) + 2 {
		m := small(t)
		m.Cut(n)
		for i, raw := range done {
			writes(t, m, api.ErrSeg, -1, raw.At, raw.Bytes)
			writes(t, m, api.ErrPlace, raw.Seg, -1, raw.Bytes)
			writes(t, m, api.ErrRoom, raw.Seg, 0, long(5))
			if i < n {
				writes(t, m, api.OK, raw.Seg, raw.At, raw.Bytes)
			}
		}
		if n < len(done) {
			writes(t, m, api.ErrPower, 0, 0, "x")
			writes(t, m, api.ErrPower, 1, 0, "")
		}
		did := min(n, len(done))
		got := all(t, m)
		if !slices.Equal(got.past, done[:did]) || got.count != did || got.writes != did || got.on != (n > len(done)) {
			t.Errorf("Cut(%d): %+v", n, got)
		}
		if !slices.Equal(got.written, replayed(2, done[:did])) {
			t.Errorf("Cut(%d): %q", n, got.written)
		}
		m.Restore()
		for _, raw := range done[did:] {
			writes(t, m, api.OK, raw.Seg, raw.At, raw.Bytes)
		}
		if got := past(m); !slices.Equal(got, done) {
			t.Errorf("Cut(%d), Restore: %v", n, got)
		}
	}
}

// P12.5: no raw write ever leaves the past, however often all is written over, and however often the power fails.
func TestNothingLeavesThePast(t *testing.T) {
	m := made(t, power.New(), 2, 3)
	var want []api.Raw
	for i := range 20000 {
		raw := api.Raw{Seg: i % 2, At: 0, Bytes: string([]byte{byte(i), byte(i >> 8), 'x'}[:i%3+1])}
		writes(t, m, api.OK, raw.Seg, raw.At, raw.Bytes)
		want = append(want, raw)
		if i%50 == 0 {
			m.Cut(0)
			writes(t, m, api.ErrPower, raw.Seg, raw.At, raw.Bytes)
			m.Restore()
		}
	}
	if got := past(m); !slices.Equal(got, want) {
		t.Error("the past is another one")
	}
	if m.Count() != 20000 {
		t.Errorf("Count: %d", m.Count())
	}
}
