package quota

import (
	"testing"

	"lethe/api"
)

// P4.1: the limits are the chapter's.
func TestLimits(t *testing.T) {
	greatestByName := api.Quota{
		Secrets: api.MaxSecrets, Name: api.MaxName, Value: api.MaxValue, Note: api.MaxNote,
		Versions: api.MaxVersions, Batch: api.MaxBatch, Cache: api.MaxCache,
	}
	if greatestByName != greatest {
		t.Errorf("%v", greatestByName)
	}
}

// P4.1: whatever a part may be, from edge to edge, the others being anything that they may be.
func TestQuotasThatMayBe(t *testing.T) {
	for _, q := range []api.Quota{least, example, greatest} {
		for _, p := range parts {
			for n := p.least; n <= p.greatest; n++ {
				if e := Right(with(q, p, n)); e != api.OK {
					t.Errorf("%s %d: %d", p.name, n, e)
				}
			}
		}
	}
}

// P4.1: one part that is outside is enough; no number follows from such a quota.
func TestQuotasThatMayNotBe(t *testing.T) {
	refuses := func(q api.Quota) {
		t.Helper()
		if e := Right(q); e != api.ErrQuota {
			t.Errorf("Right of %v: %d", q, e)
		}
		for name, number := range numbers {
			if n := number(q); n != 0 {
				t.Errorf("%s of %v: %d", name, q, n)
			}
		}
	}
	refuses(api.Quota{})
	for _, q := range []api.Quota{least, example, greatest} {
		for _, p := range parts {
			for _, n := range outside(p) {
				refuses(with(q, p, n))
			}
		}
	}
}

// P4.1: at all corners at one time: a quota may be just if each of its parts may.
func TestQuotasAtTheCorners(t *testing.T) {
	var choices [][]int
	for _, p := range parts {
		choices = append(choices, []int{p.least - 1, p.least, p.greatest, p.greatest + 1})
	}
	each(choices, func(q api.Quota) {
		want := api.OK
		for _, p := range parts {
			if n := *p.of(&q); n < p.least || n > p.greatest {
				want = api.ErrQuota
			}
		}
		if e := Right(q); e != want {
			t.Errorf("Right of %v: %d, want %d", q, e, want)
		}
		for name, number := range numbers {
			if n := number(q); (n > 0) != (want == api.OK) || n < 0 {
				t.Errorf("%s of %v: %d", name, q, n)
			}
		}
	})
}

// P4.1: quotas whose numbers were worked out by hand.
func TestNumbers(t *testing.T) {
	for _, x := range []struct {
		name string
		q    api.Quota
		want map[string]int
	}{
		{"the example", example, map[string]int{
			"Levels": 3, "PageBytes": 311, "SegBytes": 1244, "LivePages": 9, "LiveSegs": 3,
			"OpPages": 12, "BatchSegs": 6, "Reserve": 9, "Segments": 14}},
		{"the least", least, map[string]int{
			"Levels": 1, "PageBytes": 131, "SegBytes": 524, "LivePages": 1, "LiveSegs": 1,
			"OpPages": 6, "BatchSegs": 2, "Reserve": 3, "Segments": 6}},
		{"the greatest", greatest, map[string]int{
			"Levels": 6, "PageBytes": 1135, "SegBytes": 4540, "LivePages": 63, "LiveSegs": 16,
			"OpPages": 21, "BatchSegs": 42, "Reserve": 58, "Segments": 76}},
		{"more live segments than a batch takes", api.Quota{Secrets: 64, Name: 16, Value: 32, Note: 16, Versions: 4, Batch: 1, Cache: 32}, map[string]int{
			"Levels": 6, "PageBytes": 1135, "SegBytes": 4540, "LivePages": 63, "LiveSegs": 16,
			"OpPages": 21, "BatchSegs": 6, "Reserve": 32, "Segments": 50}},
		{"as many as a batch takes", api.Quota{Secrets: 16, Name: 1, Versions: 1, Batch: 1}, map[string]int{
			"Levels": 4, "PageBytes": 131, "SegBytes": 524, "LivePages": 15, "LiveSegs": 4,
			"OpPages": 15, "BatchSegs": 4, "Reserve": 8, "Segments": 14}},
		{"the whole's examples", api.Quota{Secrets: 2, Name: 2, Value: 2, Versions: 1, Batch: 2, Cache: 2}, map[string]int{
			"Levels": 1, "PageBytes": 135, "SegBytes": 540, "LivePages": 1, "LiveSegs": 1,
			"OpPages": 6, "BatchSegs": 3, "Reserve": 4, "Segments": 7}},
	} {
		for name, number := range numbers {
			if n := number(x.q); n != x.want[name] {
				t.Errorf("%s, %s: %d, want %d", x.name, name, n, x.want[name])
			}
		}
	}
}

// P4.1: levels and live pages where the number of leaves grows, or the times that it can be halved.
func TestTreesOfSecrets(t *testing.T) {
	for _, x := range []struct{ secrets, levels, pages, segs int }{
		{1, 1, 1, 1}, {2, 1, 1, 1}, {3, 1, 1, 1},
		{4, 2, 3, 1}, {5, 2, 3, 1}, {6, 2, 5, 2}, {7, 2, 5, 2},
		{8, 3, 7, 2}, {9, 3, 7, 2}, {10, 3, 9, 3}, {12, 3, 11, 3}, {14, 3, 13, 4}, {15, 3, 13, 4},
		{16, 4, 15, 4}, {17, 4, 15, 4}, {30, 4, 29, 8}, {31, 4, 29, 8},
		{32, 5, 31, 8}, {33, 5, 31, 8}, {34, 5, 33, 9}, {62, 5, 61, 16}, {63, 5, 61, 16},
		{64, 6, 63, 16},
	} {
		q := example
		q.Secrets = x.secrets
		if Levels(q) != x.levels || LivePages(q) != x.pages || LiveSegs(q) != x.segs {
			t.Errorf("%d secrets: %d levels, %d live pages, %d live segments", x.secrets, Levels(q), LivePages(q), LiveSegs(q))
		}
	}
}

// P4.1: what a batch takes, where a rest counts as one more and where there is none.
func TestBatches(t *testing.T) {
	for _, x := range []struct{ secrets, batch, pages, segs int }{
		{1, 1, 6, 2}, {1, 2, 6, 3}, {1, 3, 6, 5}, {1, 4, 6, 6}, {1, 8, 6, 12},
		{4, 1, 9, 3}, {4, 2, 9, 5}, {4, 3, 9, 7}, {4, 4, 9, 9}, {4, 5, 9, 12},
		{8, 1, 12, 3}, {8, 7, 12, 21},
		{64, 1, 21, 6}, {64, 2, 21, 11}, {64, 3, 21, 16}, {64, 4, 21, 21}, {64, 7, 21, 37},
	} {
		q := example
		q.Secrets, q.Batch = x.secrets, x.batch
		if OpPages(q) != x.pages || BatchSegs(q) != x.segs {
			t.Errorf("%d secrets, batches of %d: %d pages a call, %d segments", x.secrets, x.batch, OpPages(q), BatchSegs(q))
		}
	}
}

// P4.1: a page has room for four secrets or for four kids, whichever are longer.
func TestPagesOfSecretsAndOfKids(t *testing.T) {
	for _, x := range []struct{ name, value, note, versions, bytes int }{
		{1, 0, 0, 1, 131}, {16, 0, 0, 1, 191},
		{1, 6, 0, 1, 131}, {1, 0, 6, 1, 131}, {1, 7, 0, 1, 131}, {1, 3, 4, 1, 131},
		{1, 8, 0, 1, 135}, {1, 0, 8, 1, 135}, {1, 4, 4, 1, 135}, {16, 7, 0, 1, 191}, {16, 8, 0, 1, 195},
		{1, 0, 0, 2, 171}, {1, 0, 0, 3, 239}, {1, 0, 0, 4, 307}, {2, 0, 0, 2, 175},
		{1, 1, 0, 2, 179}, {1, 0, 1, 2, 179}, {1, 32, 0, 1, 231}, {1, 0, 16, 1, 167}, {1, 32, 16, 4, 1075},
	} {
		q := api.Quota{Secrets: 1, Name: x.name, Value: x.value, Note: x.note, Versions: x.versions, Batch: 1}
		if PageBytes(q) != x.bytes || SegBytes(q) != 4*x.bytes {
			t.Errorf("%v: %d bytes, %d of a segment", q, PageBytes(q), SegBytes(q))
		}
	}
}

// P4.2: what a number does not hang on may be anything; all trees and batches are gone through, and all pages.
func TestNumbersHangOnNothingElse(t *testing.T) {
	page := []string{"PageBytes", "SegBytes"}
	tree := []string{"Levels", "LivePages", "LiveSegs", "OpPages"}
	batch := []string{"BatchSegs", "Reserve", "Segments"}
	same := func(q, other api.Quota, names []string) {
		t.Helper()
		for _, name := range names {
			if numbers[name](q) != numbers[name](other) {
				t.Errorf("%s: %d of %v, %d of %v", name, numbers[name](q), q, numbers[name](other), other)
			}
		}
	}
	look := func(q api.Quota) {
		ofPage := api.Quota{Secrets: 33, Name: q.Name, Value: q.Value, Note: q.Note, Versions: q.Versions, Batch: 5, Cache: 7}
		ofTree := api.Quota{Secrets: q.Secrets, Name: 3, Value: 5, Note: 2, Versions: 2, Batch: 5, Cache: 7}
		ofBatch := ofTree
		ofBatch.Batch = q.Batch
		same(q, ofPage, page)
		same(q, ofTree, tree)
		same(q, ofBatch, batch)
	}
	pages(look)
	trees(look)
}

// P4.2: one more of any part makes no number less.
func TestNoNumberIsLessForAGreaterQuota(t *testing.T) {
	look := func(q api.Quota) {
		for _, p := range parts {
			n := *p.of(&q)
			if n == p.greatest {
				continue
			}
			more := with(q, p, n+1)
			for name, number := range numbers {
				if number(more) < number(q) {
					t.Errorf("%s: %d of %v, %d of %v", name, number(q), q, number(more), more)
				}
			}
		}
	}
	pages(look)
	trees(look)
}

// P4.2: a tree is never higher than may be.
func TestLevelsAreAtMostMaxLevel(t *testing.T) {
	trees(func(q api.Quota) {
		if n := Levels(q); n < 1 || n > api.MaxLevel {
			t.Errorf("%d levels of %v", n, q)
		}
	})
}

// roomy goes through all trees and batches, with a short page and a long one, and every way in which pages' lengths may come.
func roomy(do func(q api.Quota, lengths string, size func(i, most int) int)) {
	each([][]int{span(1, 64), {1, 16}, {0, 32}, {0}, {1, 4}, span(1, 8), {0}}, func(q api.Quota) {
		for lengths, size := range pageSizes {
			do(q, lengths, size)
		}
	})
}

// P4.3: behind a cleaning of all sealed segments all are free but the open one and those that what lives takes: more than Reserve.
func TestRoomBehindACleaningOfAll(t *testing.T) {
	roomy(func(q api.Quota, lengths string, size func(i, most int) int) {
		promised := Segments(q) - 1 - LiveSegs(q)
		if promised <= Reserve(q) {
			t.Errorf("%v: %d free, and a reserve of %d", q, promised, Reserve(q))
		}
		if free := Segments(q) - 1 - taken(q, LivePages(q), size); free < promised {
			t.Errorf("%v, %s: %d free, want %d", q, lengths, free, promised)
		}
	})
}

// P4.3: the longest batch, and a cleaning, that begin with just one free segment more than Reserve.
func TestRoomBehindABatchAndACleaning(t *testing.T) {
	roomy(func(q api.Quota, lengths string, size func(i, most int) int) {
		begins := Reserve(q) + 1
		batch := taken(q, q.Batch*OpPages(q), size)
		if batch > BatchSegs(q) || begins-batch < LiveSegs(q) {
			t.Errorf("%v, %s: a batch takes %d of %d free ones", q, lengths, batch, begins)
		}
		cleaning := taken(q, LivePages(q), size)
		if cleaning > LiveSegs(q) || begins-cleaning < LiveSegs(q) {
			t.Errorf("%v, %s: a cleaning takes %d of %d free ones", q, lengths, cleaning, begins)
		}
	})
}

// P4.3: those that pages of the greatest length take are just those that the numbers tell.
func TestLongPagesTakeJustSoManySegments(t *testing.T) {
	trees(func(q api.Quota) {
		if n := taken(q, LivePages(q), pageSizes["all the longest"]); n != LiveSegs(q) {
			t.Errorf("%v: what lives takes %d, want %d", q, n, LiveSegs(q))
		}
		if n := taken(q, q.Batch*OpPages(q), pageSizes["all the longest"]); n != BatchSegs(q) {
			t.Errorf("%v: a batch takes %d, want %d", q, n, BatchSegs(q))
		}
	})
}
