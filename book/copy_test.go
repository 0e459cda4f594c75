package book

import (
	"slices"
	"testing"

	"lethe/api"
)

// P9.6: a copy has the same secrets, the same values of before, and the same quota.
func TestCopy(t *testing.T) {
	for _, b := range []*Book{made(t, q), made(t, q, put("a", "x")), made(t, q, put("a", "x"), put("b", "y"), put("b", "z"), over("a", "w"))} {
		c := b.Copy()
		holds(t, c, b.Gone(), b.All()...)
		refused(t, c, api.ErrBatch, -1, del("a"), del("a"), del("a"), del("a"))
		refused(t, c, api.ErrTooBig, 0, put("a", long(3)))
	}
	full := made(t, q, put("a", "x"), put("b", "y")).Copy()
	refused(t, full, api.ErrFull, 0, put("c", "z"))
}

// P9.6: nothing that is done to one is seen of the other, in either direction, nor of a copy's copy.
func TestCopiesGoTheirOwnWays(t *testing.T) {
	steps := [][]api.Op{{put("a", "1")}, {put("a", "2"), put("a", "3")}, {over("b", "4")}, {del("a")}, {put("c", "5"), del("b")}}
	for at := range steps {
		b := made(t, q, put("a", "x"), put("b", "y"))
		for _, ops := range steps[:at] {
			played(t, b, ops...)
		}
		c := b.Copy()
		d := c.Copy()
		all, gone := b.All(), b.Gone()
		played(t, b, steps[at]...)
		holds(t, c, gone, all...)
		holds(t, d, gone, all...)
		behind, went := b.All(), b.Gone()
		for _, ops := range steps[at:] {
			played(t, c, ops...)
		}
		holds(t, d, gone, all...)
		holds(t, b, went, behind...)
		played(t, d, steps[at]...)
		holds(t, d, went, behind...)
	}
}

// P9.6: what one book had put is not told as gone by the other.
func TestCopiesGone(t *testing.T) {
	b := made(t, q, put("a", "x"))
	c := b.Copy()
	played(t, b, put("a", "y"), over("a", "z"))
	played(t, c, put("a", "v"), over("a", "w"))
	holds(t, b, []string{"x", "y"}, secret("a", 3, "z"))
	holds(t, c, []string{"v", "x"}, secret("a", 3, "w"))
}

// spoil writes over all of a list, its spare room too.
func spoil[T any](l []T, with T) {
	l = l[:cap(l)]
	for i := range l {
		l[i] = with
	}
}

// R4: calls and prefixes are neither changed nor kept, nor the room behind them.
func TestWhatIsHandedIn(t *testing.T) {
	b := made(t, q)
	room := []api.Op{put("a", "x"), put("b", "y"), put("c", "z"), put("d", "w")}
	before := slices.Clone(room)
	for _, call := range []func(ops ...api.Op) (api.Errno, int){b.Judge, b.Play, b.Judge} {
		if err, at := call(room[:2]...); err != api.OK || at != 0 {
			t.Fatalf("%d at %d", err, at)
		}
		if !slices.Equal(room, before) {
			t.Fatalf("the calls are %v now", room)
		}
	}
	if err, at := b.Play(room[:3]...); err != api.ErrFull || at != 2 || !slices.Equal(room, before) {
		t.Fatalf("%d at %d, %v", err, at, room)
	}
	spoil(room, put("q", "q"))
	holds(t, b, nil, secret("a", 1, "x"), secret("b", 1, "y"))

	prefixes := []string{"b", "a", "c", "d"}
	names := b.Names(prefixes[:2]...)
	if !slices.Equal(prefixes, []string{"b", "a", "c", "d"}) {
		t.Errorf("the prefixes are %q now", prefixes)
	}
	spoil(prefixes, "q")
	if !slices.Equal(names, []string{"a", "b"}) {
		t.Errorf("Names: %q", names)
	}
}

// R4: what is handed out is nobody's memory: neither the book's nor its copy's, nor another answer's.
func TestWhatIsHandedOut(t *testing.T) {
	b := made(t, q, put("a", "x"), put("a", "y"), put("b", "z"), put("b", "u"), put("b", "w"))
	c := b.Copy()
	want := []api.Entry{secret("a", 1, "x", "y"), secret("b", 2, "u", "w")}
	wrong := api.Version{No: 9, Value: "!", Note: "!"}

	got, _ := b.Get("a")
	again, _ := b.Get("a")
	all, more := b.All(), b.All()
	spoil(got.Versions, wrong)
	for _, e := range all {
		spoil(e.Versions, wrong)
	}
	if !same(again, want[0]) || !sameAll(more, want) {
		t.Errorf("the other answers are %v and %v now", again, more)
	}
	spoil(all, api.Entry{Name: "!"})
	spoil(b.Names(), "!")
	spoil(b.Names("a", "b"), "!")
	spoil(b.Gone(), "!")
	holds(t, b, []string{"z"}, want...)
	holds(t, c, []string{"z"}, want...)

	alone := b.All()
	spoil(alone[0].Versions, wrong)
	if !same(alone[1], want[1]) {
		t.Errorf("the next secret of the answer is %v now", alone[1])
	}
}

// R4: what was handed out stays as it was, whatever is played behind it.
func TestAnswersStay(t *testing.T) {
	b := made(t, q, put("a", "x"), put("b", "y"))
	got, _ := b.Get("a")
	all, names := b.All(), b.Names()
	played(t, b, put("a", "1"), put("a", "2"), del("b"))
	gone := b.Gone()
	played(t, b, put("c", "3"), over("a", "4"), del("c"))
	if !same(got, secret("a", 1, "x")) || !sameAll(all, []api.Entry{secret("a", 1, "x"), secret("b", 1, "y")}) {
		t.Errorf("the answers are %v and %v now", got, all)
	}
	if !slices.Equal(names, []string{"a", "b"}) || !slices.Equal(gone, []string{"x", "y"}) {
		t.Errorf("the answers are %q and %q now", names, gone)
	}
}
