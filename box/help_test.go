package box

import (
	"math"
	"slices"
	"strings"
	"testing"

	"lethe/api"
	"lethe/term"
)

// keys are some at the edges of a word, and some that are alike in a part of it.
var keys = []uint64{0, 1, 7, 300, 1 << 31, 1<<32 + 1, 1 << 40, 1 << 63, 1<<63 + 1, math.MaxUint64}

func boxOf(key uint64, l ...api.Term) api.Term {
	return api.Term{Kind: api.Box, Num: key, List: l}
}

func rowOf(l ...api.Term) api.Term { return api.Term{Kind: api.Row, List: l} }

// numbers are n of them.
func numbers(n int) []api.Term {
	l := make([]api.Term, n)
	for i := range l {
		l[i] = api.Term{Kind: api.Num, Num: uint64(i)}
	}
	return l
}

// within puts a term into n rows.
func within(n int, t api.Term) api.Term {
	for range n {
		t = rowOf(t)
	}
	return t
}

// sealed puts a term into a box under each key, as Wrap must.
func sealed(t api.Term, keys ...uint64) api.Term {
	for _, key := range keys {
		t = boxOf(key, t)
	}
	return t
}

// manyDeep has so many terms in all, so many of them within one another.
func manyDeep(terms, deep int) api.Term {
	return within(deep-2, rowOf(numbers(terms-deep+1)...))
}

// equal holds terms against each other whether they may be or not; an empty list is as none (R5).
func equal(a, b api.Term) bool {
	return a.Kind == b.Kind && a.Num == b.Num && a.Bytes == b.Bytes && slices.EqualFunc(a.List, b.List, equal)
}

// refused is a term, and the error with which it may not be.
type refused struct {
	t api.Term
	e api.Errno
}

// fitting are terms that may be, in a box too; some just fit.
func fitting() map[string]api.Term {
	third := rowOf(numbers(1331)...)
	return map[string]api.Term{
		"number 0":                  {Kind: api.Num},
		"the greatest number":       {Kind: api.Num, Num: math.MaxUint64},
		"number with an empty list": {Kind: api.Num, Num: 4, List: []api.Term{}},
		"key":                       {Kind: api.Key, Num: 7},
		"empty atom":                {Kind: api.Atom},
		"atom":                      {Kind: api.Atom, Bytes: "a\x00\xff"},
		"the longest atom":          {Kind: api.Atom, Bytes: strings.Repeat("x", api.MaxAtom)},
		"empty row":                 rowOf(),
		"row with an empty list":    {Kind: api.Row, List: []api.Term{}},
		"row":                       rowOf(term.Num(1), term.Atom("ab"), rowOf(term.Key(300), rowOf())),
		"box":                       boxOf(7, term.Atom("a")),
		"boxes in a row":            rowOf(boxOf(7, term.Num(1)), boxOf(8, boxOf(7, rowOf()))),
		"3999 in all":               rowOf(numbers(3998)...),
		"eleven deep":               within(10, term.Atom("a")),
		"ten boxes about a number":  sealed(term.Num(9), 1, 2, 3, 4, 5, 6, 7, 8, 9, 10),
		"3999, eleven deep":         manyDeep(3999, 11),
		"one list in three places":  rowOf(third, third, third),
	}
}

// tooBig are terms that may be, but not in a box.
func tooBig() map[string]refused {
	return map[string]refused{
		"4000 in all":        {rowOf(numbers(3999)...), api.ErrMany},
		"twelve deep":        {within(11, term.Atom("a")), api.ErrDeep},
		"twelve boxes":       {sealed(rowOf(), 1, 1, 1, 1, 1, 1, 1, 1, 1, 1, 1), api.ErrDeep},
		"3999, twelve deep":  {manyDeep(3999, 12), api.ErrDeep},
		"4000, eleven deep":  {manyDeep(4000, 11), api.ErrMany},
		"4000, twelve deep":  {manyDeep(4000, 12), api.ErrMany},
		"a box of 4000":      {boxOf(7, rowOf(numbers(3998)...)), api.ErrMany},
		"a box, twelve deep": {boxOf(7, within(10, rowOf())), api.ErrDeep},
	}
}

// wrong are terms that may not be; some would be refused with another error in a box.
func wrong() map[string]refused {
	bad := api.Term{Kind: 9}
	return map[string]refused{
		"zero":                     {api.Term{}, api.ErrTerm},
		"kind 6":                   {api.Term{Kind: 6}, api.ErrTerm},
		"number with bytes":        {api.Term{Kind: api.Num, Bytes: "a"}, api.ErrTerm},
		"row with a number":        {api.Term{Kind: api.Row, Num: 7}, api.ErrTerm},
		"atom that is too long":    {term.Atom(strings.Repeat("x", api.MaxAtom+1)), api.ErrTerm},
		"box of nothing":           {boxOf(7), api.ErrTerm},
		"box of an empty list":     {boxOf(7, []api.Term{}...), api.ErrTerm},
		"box of two":               {boxOf(7, rowOf(), rowOf()), api.ErrTerm},
		"box with bytes":           {api.Term{Kind: api.Box, Num: 7, Bytes: "a", List: numbers(1)}, api.ErrTerm},
		"box of a bad one":         {boxOf(7, bad), api.ErrTerm},
		"box of a row of bad ones": {boxOf(7, rowOf(rowOf(), bad)), api.ErrTerm},
		"a bad one twelve deep":    {within(11, bad), api.ErrTerm},
		"a bad one among 4000":     {rowOf(append(numbers(3998), bad)...), api.ErrTerm},
		"thirteen deep":            {within(12, rowOf()), api.ErrDeep},
		"4000, thirteen deep":      {manyDeep(4000, 13), api.ErrDeep},
		"thirteen boxes":           {sealed(rowOf(), 7, 7, 7, 7, 7, 7, 7, 7, 7, 7, 7, 7), api.ErrDeep},
		"4001 in all":              {rowOf(numbers(4000)...), api.ErrMany},
		"a box of 4001 in all":     {boxOf(7, rowOf(numbers(3999)...)), api.ErrMany},
		"4001, thirteen deep":      {manyDeep(4001, 13), api.ErrMany},
		"very many, very deep":     {sealed(within(60000, bad), 7), api.ErrMany},
	}
}

// must gives the term on of a call that may not be refused.
func must(t *testing.T) func(api.Term, api.Errno) api.Term {
	return func(x api.Term, e api.Errno) api.Term {
		t.Helper()
		if e != api.OK {
			t.Fatalf("refused: %d", e)
		}
		return x
	}
}

// refuses looks whether a call answered that error, and nothing beside it (R2).
func refuses(t *testing.T, name string, want api.Errno) func(api.Term, api.Errno) {
	return func(x api.Term, e api.Errno) {
		t.Helper()
		if e != want || !equal(x, api.Term{}) {
			t.Errorf("%s: %d, want %d (the kind %d beside it)", name, e, want, x.Kind)
		}
	}
}
