package quota

import (
	"math"

	"lethe/api"
)

// numbers are all that follows from a quota, by its name.
var numbers = map[string]func(api.Quota) int{
	"Levels":    Levels,
	"PageBytes": PageBytes,
	"SegBytes":  SegBytes,
	"LivePages": LivePages,
	"LiveSegs":  LiveSegs,
	"OpPages":   OpPages,
	"BatchSegs": BatchSegs,
	"Reserve":   Reserve,
	"Segments":  Segments,
}

// part is one of a quota's, and between what it may be.
type part struct {
	name            string
	least, greatest int
	of              func(q *api.Quota) *int
}

var parts = []part{
	{"Secrets", 1, 64, func(q *api.Quota) *int { return &q.Secrets }},
	{"Name", 1, 16, func(q *api.Quota) *int { return &q.Name }},
	{"Value", 0, 32, func(q *api.Quota) *int { return &q.Value }},
	{"Note", 0, 16, func(q *api.Quota) *int { return &q.Note }},
	{"Versions", 1, 4, func(q *api.Quota) *int { return &q.Versions }},
	{"Batch", 1, 8, func(q *api.Quota) *int { return &q.Batch }},
	{"Cache", 0, 32, func(q *api.Quota) *int { return &q.Cache }},
}

// with is the quota with another number in one part.
func with(q api.Quota, p part, n int) api.Quota {
	*p.of(&q) = n
	return q
}

// example is the chapter's, least and greatest are at the edges.
var (
	example  = api.Quota{Secrets: 10, Name: 8, Value: 10, Note: 4, Versions: 2, Batch: 2, Cache: 3}
	least    = api.Quota{Secrets: 1, Name: 1, Versions: 1, Batch: 1}
	greatest = api.Quota{Secrets: 64, Name: 16, Value: 32, Note: 16, Versions: 4, Batch: 8, Cache: 32}
)

// outside are numbers that a part may not be: at its edges, far off, and some that are right in fewer bits or without their sign.
func outside(p part) []int {
	all := []int{p.least - 1, p.greatest + 1, -p.greatest, math.MinInt, math.MinInt + 1, math.MaxInt, math.MaxInt - 1}
	for _, bits := range []int{8, 16, 31, 32, 62} {
		all = append(all, p.least+1<<bits, p.greatest-1<<bits)
	}
	return all
}

// each goes through all quotas whose parts are of those numbers, a list a part.
func each(choices [][]int, do func(q api.Quota)) {
	places := make([]int, len(choices))
	for {
		var q api.Quota
		for i, p := range parts {
			*p.of(&q) = choices[i][places[i]]
		}
		do(q)
		i := 0
		for i < len(places) && places[i] == len(choices[i])-1 {
			places[i] = 0
			i++
		}
		if i == len(places) {
			return
		}
		places[i]++
	}
}

// span are the numbers from least to greatest.
func span(least, greatest int) []int {
	var all []int
	for n := least; n <= greatest; n++ {
		all = append(all, n)
	}
	return all
}

// trees are all quotas that are unlike in what trees and batches hang on, pages all those that are unlike in what a page hangs on.
func trees(do func(q api.Quota)) {
	each([][]int{span(1, 64), {1, 8}, {0, 32}, {0, 4}, {1, 3}, span(1, 8), {0, 3, 32}}, do)
}

func pages(do func(q api.Quota)) {
	each([][]int{{1, 10, 64}, span(1, 16), span(0, 32), span(0, 16), span(1, 4), {1, 8}, {0, 32}}, do)
}

// pageSizes are ways in which the lengths of pages may come behind one another, by the place and the greatest length.
var pageSizes = map[string]func(i, most int) int{
	"all the longest":       func(i, most int) int { return most },
	"the longest less one":  func(i, most int) int { return most - 1 },
	"all of a byte":         func(i, most int) int { return 1 },
	"long and short":        func(i, most int) int { return 1 + i%2*(most-1) },
	"short, and three long": func(i, most int) int { return 1 + min(1, i%4)*(most-1) },
	"two thirds":            func(i, most int) int { return 2*most/3 + 1 },
	"here and there":        func(i, most int) int { return 1 + i*7919%most },
}

// taken is how many free segments so many pages take, if the open one is full, and a page that doesn't fit goes to a new one.
func taken(q api.Quota, pages int, size func(i, most int) int) int {
	segs, room := 0, 0
	for i := range pages {
		n := size(i, PageBytes(q))
		if n > room {
			segs++
			room = SegBytes(q)
		}
		room -= n
	}
	return segs
}
