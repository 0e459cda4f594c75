package term

import (
	"reflect"
	"strings"
	"testing"

	"lethe/api"
)

// bytesOf makes bytes of numbers, as the chapter's tables write them.
func bytesOf(l ...byte) string { return string(l) }

func boxOf(key uint64, l ...api.Term) api.Term {
	return api.Term{Kind: api.Box, Num: key, List: l}
}

func rowOf(l ...api.Term) api.Term { return api.Term{Kind: api.Row, List: l} }

// numbers are n of them.
func numbers(n int) []api.Term {
	l := make([]api.Term, n)
	for i := range l {
		l[i] = api.Term{Kind: api.Num, Num: uint64(i)}
	}
	return l
}

// within puts a term into n rows, or n boxes.
func within(kind, n int, t api.Term) api.Term {
	for range n {
		t = api.Term{Kind: kind, List: []api.Term{t}}
	}
	return t
}

func long(n int) string { return strings.Repeat("x", n) }

func mustEncode(t *testing.T, x api.Term) string {
	t.Helper()
	s, e := Encode(x)
	if e != api.OK {
		t.Fatalf("Encode: %d", e)
	}
	return s
}

// plain makes a copy whose empty lists are all nil, so that terms can be held against each other whatever these are.
func plain(x api.Term) api.Term {
	var l []api.Term
	for _, part := range x.List {
		l = append(l, plain(part))
	}
	x.List = l
	return x
}

func equal(a, b api.Term) bool { return reflect.DeepEqual(plain(a), plain(b)) }

// refused are terms that may not be, each with its error: all of them are asked of every call that judges terms.
func refused() map[string]struct {
	t api.Term
	e api.Errno
} {
	type r = struct {
		t api.Term
		e api.Errno
	}
	bad := api.Term{Kind: 9}
	leaf := api.Term{Kind: api.Num, Num: 1}
	third := rowOf(numbers(1332)...)
	return map[string]r{
		"zero":                           {api.Term{}, api.ErrTerm},
		"kind 6":                         {api.Term{Kind: 6}, api.ErrTerm},
		"kind -1":                        {api.Term{Kind: -1}, api.ErrTerm},
		"kind 257":                       {api.Term{Kind: 257, Num: 1}, api.ErrTerm},
		"number with bytes":              {api.Term{Kind: api.Num, Bytes: "a"}, api.ErrTerm},
		"number with a list":             {api.Term{Kind: api.Num, List: []api.Term{leaf}}, api.ErrTerm},
		"key with bytes":                 {api.Term{Kind: api.Key, Num: 3, Bytes: "a"}, api.ErrTerm},
		"key with a list":                {api.Term{Kind: api.Key, Num: 3, List: []api.Term{leaf}}, api.ErrTerm},
		"atom with a number":             {api.Term{Kind: api.Atom, Num: 1, Bytes: "a"}, api.ErrTerm},
		"atom with a list":               {api.Term{Kind: api.Atom, Bytes: "a", List: []api.Term{leaf}}, api.ErrTerm},
		"atom that is too long":          {api.Term{Kind: api.Atom, Bytes: long(4001)}, api.ErrTerm},
		"box of nothing":                 {boxOf(3), api.ErrTerm},
		"box of nothing, its list empty": {api.Term{Kind: api.Box, List: []api.Term{}}, api.ErrTerm},
		"box of two":                     {boxOf(3, leaf, leaf), api.ErrTerm},
		"box with bytes":                 {api.Term{Kind: api.Box, Bytes: "a", List: []api.Term{leaf}}, api.ErrTerm},
		"row with a number":              {api.Term{Kind: api.Row, Num: 1}, api.ErrTerm},
		"row with bytes":                 {api.Term{Kind: api.Row, Bytes: "a"}, api.ErrTerm},
		"a bad one in a row":             {rowOf(bad), api.ErrTerm},
		"a bad one behind good ones":     {rowOf(leaf, rowOf(leaf, leaf), bad), api.ErrTerm},
		"a bad one ahead of good ones":   {rowOf(bad, leaf, rowOf(leaf)), api.ErrTerm},
		"a bad one in a box in a row":    {rowOf(leaf, boxOf(1, rowOf(leaf, bad))), api.ErrTerm},
		"a bad one twelve deep":          {within(api.Row, 11, bad), api.ErrTerm},
		"thirteen rows":                  {within(api.Row, 12, rowOf()), api.ErrDeep},
		"a number in twelve rows":        {within(api.Row, 12, leaf), api.ErrDeep},
		"a number in twelve boxes":       {within(api.Box, 12, leaf), api.ErrDeep},
		"a bad one thirteen deep":        {within(api.Row, 12, bad), api.ErrDeep},
		"a bad one ahead of a deep one":  {rowOf(bad, within(api.Row, 12, leaf)), api.ErrDeep},
		"deep in the first of two":       {rowOf(within(api.Row, 12, leaf), leaf), api.ErrDeep},
		"deep within numbers":            {within(api.Num, 12, leaf), api.ErrDeep},
		"a row of 4000":                  {rowOf(numbers(4000)...), api.ErrMany},
		"a row of 100000":                {rowOf(numbers(100000)...), api.ErrMany},
		"two rows, with 4001 in all":     {rowOf(rowOf(numbers(2000)...), rowOf(numbers(1998)...)), api.ErrMany},
		"a box of a row, 4001 in all":    {boxOf(1, rowOf(numbers(3999)...)), api.ErrMany},
		"4001 within one another":        {within(api.Row, 4000, leaf), api.ErrMany},
		"4000 within one another":        {within(api.Row, 3999, leaf), api.ErrDeep},
		"very many within one another":   {within(api.Box, 60000, leaf), api.ErrMany},
		"many, deep and bad":             {rowOf(bad, within(api.Row, 14, leaf), rowOf(numbers(4000)...)), api.ErrMany},
		"many, in a number's list":       {api.Term{Kind: api.Num, List: numbers(4000)}, api.ErrMany},
		"4000 of which one is bad":       {rowOf(append(numbers(3998), bad)...), api.ErrTerm},
		"4000 of which one is too deep":  {rowOf(append(numbers(3986), within(api.Row, 12, leaf))...), api.ErrDeep},
		"one list in three places, 4001": {rowOf(third, third, third, leaf), api.ErrMany},
	}
}

// allowed are terms that may be, those at the edges among them.
func allowed() map[string]api.Term {
	leaf := api.Term{Kind: api.Num, Num: 1}
	third := rowOf(numbers(1332)...)
	return map[string]api.Term{
		"number 0":                   {Kind: api.Num},
		"the greatest number":        {Kind: api.Num, Num: 1<<64 - 1},
		"number with an empty list":  {Kind: api.Num, Num: 4, List: []api.Term{}},
		"key 0":                      {Kind: api.Key},
		"the greatest key":           {Kind: api.Key, Num: 1<<64 - 1},
		"empty atom":                 {Kind: api.Atom},
		"atom":                       {Kind: api.Atom, Bytes: "ab"},
		"atom of odd bytes":          {Kind: api.Atom, Bytes: "\x00\xff\x80"},
		"atom of 127":                {Kind: api.Atom, Bytes: long(127)},
		"atom of 128":                {Kind: api.Atom, Bytes: long(128)},
		"atom of 4000":               {Kind: api.Atom, Bytes: long(4000)},
		"box":                        boxOf(7, leaf),
		"box under 0":                boxOf(0, leaf),
		"box under the greatest key": boxOf(1<<64-1, rowOf(leaf, leaf)),
		"boxes within one another":   boxOf(7, boxOf(300, boxOf(7, api.Term{Kind: api.Key, Num: 9}))),
		"empty row":                  {Kind: api.Row},
		"row with an empty list":     {Kind: api.Row, List: []api.Term{}},
		"row":                        rowOf(leaf, api.Term{Kind: api.Atom, Bytes: "ab"}, api.Term{Kind: api.Key, Num: 300}),
		"rows in rows":               rowOf(rowOf(), rowOf(rowOf(leaf)), leaf, boxOf(1, rowOf())),
		"row of 127":                 rowOf(numbers(127)...),
		"row of 128":                 rowOf(numbers(128)...),
		"row of 3999":                rowOf(numbers(3999)...),
		"4000 in two rows":           rowOf(rowOf(numbers(2000)...), rowOf(numbers(1997)...)),
		"4000 in a box":              boxOf(1, rowOf(numbers(3998)...)),
		"twelve rows":                within(api.Row, 11, rowOf()),
		"a number in eleven rows":    within(api.Row, 11, leaf),
		"a number in eleven boxes":   within(api.Box, 11, leaf),
		"one list in three places":   rowOf(third, third, third),
		"4000, twelve deep":          within(api.Row, 10, rowOf(numbers(3989)...)),
	}
}
