package book

import (
	"slices"
	"testing"

	"lethe/api"
	"lethe/entry"
)

// rolls are numbers that look as if they were drawn, the same ones each time.
type rolls struct{ now uint64 }

func (r *rolls) below(n int) int {
	r.now = r.now*6364136223846793005 + 1442695040888963407
	return int(r.now >> 33 % uint64(n))
}

// batch is some calls, most of which may be.
func (r *rolls) batch(q api.Quota) []api.Op {
	texts := []string{"", "a", "b", "c", "d", "ab", "ba", "e", "f", "xyz"}
	var ops []api.Op
	for range r.below(q.Batch + 2) {
		kind := 1 + r.below(3)
		if r.below(40) == 0 {
			kind = r.below(6) - 1
		}
		ops = append(ops, api.Op{Kind: kind, Name: texts[r.below(len(texts))], Value: texts[r.below(len(texts))], Note: texts[r.below(3)]})
	}
	return ops
}

// quotas are small ones, so that all that can be refused is.
func quotas() []api.Quota {
	return []api.Quota{q, least,
		{Secrets: 1, Name: 2, Value: 3, Note: 1, Versions: 3, Batch: 2},
		{Secrets: 5, Name: 3, Value: 2, Note: 0, Versions: 1, Batch: 4},
		{Secrets: 8, Name: 3, Value: 3, Note: 1, Versions: 4, Batch: 8},
		greatest}
}

// P9.2 to P9.5: many batches, each played on the book and on a ledger: the same answers, the same book.
func TestAgainstLedger(t *testing.T) {
	r := &rolls{}
	for _, q := range quotas() {
		b, m := made(t, q), &ledger{q: q}
		for range 2000 {
			ops := r.batch(q)
			judged, place := b.Judge(ops...)
			err, at := m.batch(ops)
			if got, i := b.Play(ops...); got != err || i != at || judged != err || place != at {
				t.Fatalf("%v: %d at %d, judged %d at %d, want %d at %d", ops, got, i, judged, place, err, at)
			}
			holds(t, b, m.gone(), m.l...)
			if t.Failed() {
				t.Fatalf("behind %v", ops)
			}
		}
	}
}

// P9.7: never more secrets or versions than the quota says, each secret may be, and what is gone stands nowhere.
func TestWhatFollows(t *testing.T) {
	r := &rolls{now: 7}
	for _, q := range quotas() {
		b := made(t, q)
		for range 500 {
			b.Play(r.batch(q)...)
			all := b.All()
			if len(all) > q.Secrets {
				t.Fatalf("%d secrets", len(all))
			}
			for _, e := range all {
				if err := entry.Right(q, e); err != api.OK {
					t.Fatalf("%v: %d", e, err)
				}
			}
			texts := entry.Texts(all...)
			for _, value := range b.Gone() {
				if slices.Contains(texts, value) {
					t.Fatalf("%q is told as gone, and stands in %v", value, all)
				}
			}
		}
	}
}

// P9.7: a batch is played as its calls one by one, if all may be; the first one that may not is the one that is told.
func TestBatchesCallByCall(t *testing.T) {
	r := &rolls{now: 3}
	for _, q := range quotas() {
		b := made(t, q)
		for range 1000 {
			ops := r.batch(q)
			one := b.Copy()
			err, at := b.Play(ops...)
			if err == api.ErrBatch {
				continue
			}
			for i, o := range ops {
				if got, place := one.Play(o); got != api.OK {
					if got != err || place != 0 || i != at {
						t.Fatalf("%v: %d at %d, call by call %d at %d", ops, err, at, got, i)
					}
					break
				}
			}
			if err == api.OK {
				holds(t, b, one.Gone(), one.All()...)
			}
		}
	}
}

// R6: books to which the same was done are alike in all answers, whatever order their maps have.
func TestSameAnswers(t *testing.T) {
	var ops []api.Op
	for i := range byte(64) {
		ops = append(ops, put(string([]byte{'a', '0' + i}), string([]byte{'v', i})))
	}
	first := made(t, greatest, ops...)
	for range 20 {
		holds(t, made(t, greatest, ops...), first.Gone(), first.All()...)
	}
	played(t, first, del("a0"), del("a1"), del("a2"), del("a3"), del("a4"), del("a5"), del("a6"), del("a7"))
	gone := first.Gone()
	for range 20 {
		if l := first.Gone(); !slices.Equal(l, gone) || len(l) != 8 {
			t.Fatalf("%q, then %q", gone, l)
		}
	}
}
