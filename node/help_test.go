package node

import (
	"math"
	"slices"
	"strings"
	"testing"

	"lethe/api"
)

// example is the chapter's; least and greatest are at the edges.
var (
	example  = api.Quota{Secrets: 10, Name: 8, Value: 10, Note: 4, Versions: 2, Batch: 2, Cache: 3}
	least    = api.Quota{Secrets: 1, Name: 1, Versions: 1, Batch: 1}
	greatest = api.Quota{Secrets: 64, Name: 16, Value: 32, Note: 16, Versions: 4, Batch: 8, Cache: 32}
)

// keys are some at the edges of a word, and some that are alike in a part of it.
var keys = []uint64{0, 1, 7, 300, 1 << 31, 1<<32 + 7, 1 << 40, 1<<63 + 7, math.MaxUint64}

func long(n int) string { return strings.Repeat("x", n) }

func ver(no int, value, note string) api.Version {
	return api.Version{No: no, Value: value, Note: note}
}

func secret(name string, l ...api.Version) api.Entry {
	return api.Entry{Name: name, Versions: l}
}

// plain are secrets of these names, with one empty version each.
func plain(names ...string) []api.Entry {
	var l []api.Entry
	for _, name := range names {
		l = append(l, secret(name, ver(1, "", "")))
	}
	return l
}

func kid(low string, key uint64, seg, off, length int) api.Kid {
	return api.Kid{Low: low, Ref: api.Ref{Key: key, Seg: seg, Off: off, Len: length}}
}

// lows are kids of these, with references that may be.
func lows(names ...string) []api.Kid {
	var l []api.Kid
	for i, name := range names {
		l = append(l, kid(name, uint64(i), i, i, i+1))
	}
	return l
}

func leafOf(l ...api.Entry) api.Node { return api.Node{Leaf: true, Entries: l} }

func innerOf(l ...api.Kid) api.Node { return api.Node{Kids: l} }

func number(n uint64) api.Term { return api.Term{Kind: api.Num, Num: n} }

func atom(s string) api.Term { return api.Term{Kind: api.Atom, Bytes: s} }

func key(n uint64) api.Term { return api.Term{Kind: api.Key, Num: n} }

func rowOf(l ...api.Term) api.Term { return api.Term{Kind: api.Row, List: l} }

// termOf is the term of a node by the chapter's words, be it right or not.
func termOf(n api.Node) api.Term {
	all := []api.Term{number(2)}
	if n.Leaf {
		all = []api.Term{number(1)}
	}
	for _, e := range n.Entries {
		one := []api.Term{atom(e.Name)}
		for _, v := range e.Versions {
			one = append(one, rowOf(number(uint64(v.No)), atom(v.Value), atom(v.Note)))
		}
		all = append(all, rowOf(one...))
	}
	for _, k := range n.Kids {
		r := k.Ref
		all = append(all, rowOf(atom(k.Low), key(r.Key), number(uint64(r.Seg)), number(uint64(r.Off)), number(uint64(r.Len))))
	}
	return rowOf(all...)
}

// equal takes nil and an empty list as one (R5).
func equal(a, b api.Term) bool {
	return a.Kind == b.Kind && a.Num == b.Num && a.Bytes == b.Bytes && slices.EqualFunc(a.List, b.List, equal)
}

func same(a, b api.Node) bool {
	return a.Leaf == b.Leaf && slices.Equal(a.Kids, b.Kids) && slices.EqualFunc(a.Entries, b.Entries, func(x, y api.Entry) bool {
		return x.Name == y.Name && slices.Equal(x.Versions, y.Versions)
	})
}

// judged is a node, by a quota, and what Right tells of it.
type judged struct {
	q api.Quota
	n api.Node
	w api.Errno
}

// fitting are nodes that may be, at the edges too.
func fitting() map[string]judged {
	edge := []api.Version{ver(api.MaxNo-3, long(32), long(16)), ver(api.MaxNo-2, long(32), long(16)), ver(api.MaxNo-1, long(32), long(16)), ver(api.MaxNo, long(32), long(16))}
	far := func(low string) api.Kid { return kid(low, math.MaxUint64, api.MaxSeg, api.MaxOff, api.MaxLen) }
	return map[string]judged{
		"the empty leaf":             {example, leafOf(), api.OK},
		"a leaf with empty lists":    {example, api.Node{Leaf: true, Entries: []api.Entry{}, Kids: []api.Kid{}}, api.OK},
		"the chapter's leaf":         {example, leafOf(secret("a", ver(1, "x", "n"))), api.OK},
		"a full leaf":                {example, leafOf(plain("a", "b", "c", "d")...), api.OK},
		"a leaf of several versions": {example, leafOf(secret("a", ver(1, "x", "n"), ver(2, "y", "")), secret("b", ver(7, "", "m"))), api.OK},
		"a beginning comes ahead":    {example, leafOf(plain("a", "aa", "ab", "b")...), api.OK},
		"any bytes":                  {example, leafOf(secret("\x00", ver(1, "\xff", "\n")), secret("\x00\x00", ver(1, "", "")), secret("\xff", ver(3, "\x00", ""))), api.OK},
		"the least leaf":             {least, leafOf(plain("a", "b", "c", "d")...), api.OK},
		"the greatest leaf":          {greatest, leafOf(secret(long(13), edge...), secret(long(14), edge...), secret(long(15), edge...), secret(long(16), edge...)), api.OK},

		"the chapter's inner node": {example, innerOf(kid("a", 9, 1, 2, 3), kid("b", 8, 0, 0, 1)), api.OK},
		"an inner node's edges":    {example, innerOf(kid("a", 0, 0, 0, 1), kid(long(8), math.MaxUint64, api.MaxSeg, api.MaxOff, api.MaxLen)), api.OK},
		"three kids":               {example, innerOf(lows("a", "b", "c")...), api.OK},
		"a full inner node":        {example, innerOf(lows("a", "aa", "b", "ba")...), api.OK},
		"the same page twice":      {example, innerOf(kid("a", 9, 1, 2, 3), kid("b", 9, 1, 2, 3)), api.OK},
		"with empty lists":         {example, api.Node{Entries: []api.Entry{}, Kids: lows("a", "b")}, api.OK},
		"the least inner node":     {least, innerOf(lows("\x00", "\xff")...), api.OK},
		"the greatest inner node":  {greatest, innerOf(far(long(13)), far(long(14)), far(long(15)), far(long(16))), api.OK},
	}
}

// wrongLeaves may not be; of most of them more than one thing is wrong, of which the first is told (R3).
func wrongLeaves() map[string]judged {
	over := example
	over.Cache = 33
	return map[string]judged{
		"no quota":                        {api.Quota{}, leafOf(), api.ErrQuota},
		"no quota, a wrong leaf":          {api.Quota{}, leafOf(plain("b", "a", "", "", "")...), api.ErrQuota},
		"a quota that is too great":       {over, leafOf(plain("a")...), api.ErrQuota},
		"a leaf with kids":                {example, api.Node{Leaf: true, Kids: lows("a", "b")}, api.ErrNode},
		"a leaf with both":                {example, api.Node{Leaf: true, Entries: plain("a"), Kids: lows("a")}, api.ErrNode},
		"kids ahead of a wrong secret":    {example, api.Node{Leaf: true, Entries: plain(""), Kids: lows("a")}, api.ErrNode},
		"five secrets":                    {example, leafOf(plain("a", "b", "c", "d", "e")...), api.ErrNode},
		"five secrets, the greatest":      {greatest, leafOf(plain("a", "b", "c", "d", "e")...), api.ErrNode},
		"five ahead of a wrong one":       {example, leafOf(plain("", "b", "c", "d", "e")...), api.ErrNode},
		"very many":                       {example, leafOf(make([]api.Entry, 100000)...), api.ErrNode},
		"the same name twice":             {example, leafOf(plain("a", "a")...), api.ErrNode},
		"falling":                         {example, leafOf(plain("b", "a")...), api.ErrNode},
		"falling at the end":              {example, leafOf(plain("a", "b", "d", "c")...), api.ErrNode},
		"falling in the midst":            {example, leafOf(plain("a", "c", "b", "d")...), api.ErrNode},
		"the first one again":             {example, leafOf(plain("a", "b", "a")...), api.ErrNode},
		"a beginning behind":              {example, leafOf(plain("ab", "a")...), api.ErrNode},
		"the chapter's, without versions": {example, leafOf(secret("a")), api.ErrEntry},
		"too many versions":               {example, leafOf(secret("a", ver(1, "", ""), ver(2, "", ""), ver(3, "", ""))), api.ErrEntry},
		"number 0":                        {example, leafOf(secret("a", ver(0, "", ""))), api.ErrEntry},
		"a number below 0":                {example, leafOf(secret("a", ver(-1, "", ""))), api.ErrEntry},
		"a number above MaxNo":            {example, leafOf(secret("a", ver(api.MaxNo+1, "", ""))), api.ErrEntry},
		"no name":                         {example, leafOf(plain("")...), api.ErrName},
		"a later one without a name":      {example, leafOf(plain("a", "")...), api.ErrName},
		"a long name":                     {example, leafOf(plain(long(9))...), api.ErrTooBig},
		"a long value":                    {example, leafOf(secret("a", ver(1, long(11), ""))), api.ErrTooBig},
		"a long note":                     {example, leafOf(secret("a", ver(1, "", long(5)))), api.ErrTooBig},
		"a wrong one ahead of falling":    {example, leafOf(secret("b"), secret("a", ver(1, "", ""))), api.ErrEntry},
		"falling ahead of a wrong one":    {example, leafOf(append(plain("b", "a"), secret("c"))...), api.ErrNode},
		"one both wrong and falling":      {example, leafOf(append(plain("b"), secret("a"))...), api.ErrEntry},
		"one both long and falling":       {example, leafOf(plain("y", long(9))...), api.ErrTooBig},
		"two wrong ones":                  {example, leafOf(secret("a"), secret("")), api.ErrEntry},
		"two wrong ones, turned":          {example, leafOf(secret(""), secret("a")), api.ErrName},
		"the last of four is wrong":       {example, leafOf(append(plain("a", "b", "c"), secret("d"))...), api.ErrEntry},
	}
}

// wrongInners are likewise.
func wrongInners() map[string]judged {
	bad := kid("c", 1, 0, 0, 0)
	return map[string]judged{
		"no quota":                      {api.Quota{}, innerOf(), api.ErrQuota},
		"no quota, right kids":          {api.Quota{}, innerOf(lows("a", "b")...), api.ErrQuota},
		"the zero node":                 {example, api.Node{}, api.ErrNode},
		"no kids":                       {example, innerOf([]api.Kid{}...), api.ErrNode},
		"the chapter's one kid":         {example, innerOf(kid("a", 9, 1, 2, 3)), api.ErrNode},
		"one wrong kid":                 {example, innerOf(kid("", 9, 1, 2, 3)), api.ErrNode},
		"five kids":                     {example, innerOf(lows("a", "b", "c", "d", "e")...), api.ErrNode},
		"five kids, the greatest":       {greatest, innerOf(lows("a", "b", "c", "d", "e")...), api.ErrNode},
		"five kids, wrong ones":         {example, innerOf(make([]api.Kid, 5)...), api.ErrNode},
		"very many":                     {example, innerOf(make([]api.Kid, 100000)...), api.ErrNode},
		"with entries":                  {example, api.Node{Entries: plain("a"), Kids: lows("a", "b")}, api.ErrNode},
		"with entries, wrong kids":      {example, api.Node{Entries: plain("a"), Kids: lows("", "")}, api.ErrNode},
		"entries alone":                 {example, api.Node{Entries: plain("a", "b")}, api.ErrNode},
		"an empty low":                  {example, innerOf(lows("", "b")...), api.ErrName},
		"a later empty low":             {example, innerOf(lows("a", "")...), api.ErrName},
		"an empty low, a bad reference": {example, innerOf(kid("", 1, -1, 0, 0), kid("b", 1, 0, 0, 1)), api.ErrName},
		"a long low":                    {example, innerOf(lows("a", long(9))...), api.ErrTooBig},
		"a long low, the least":         {least, innerOf(lows("a", "bb")...), api.ErrTooBig},
		"a long low, the greatest":      {greatest, innerOf(lows("a", long(17))...), api.ErrTooBig},
		"a long low, a bad reference":   {example, innerOf(kid(long(9), 1, -1, 0, 0), kid("y", 1, 0, 0, 1)), api.ErrTooBig},
		"a bad reference":               {example, innerOf(kid("b", 1, 0, 0, 1), bad), api.ErrRef},
		"a bad one that falls":          {example, innerOf(kid("d", 1, 0, 0, 1), bad), api.ErrRef},
		"a bad one ahead":               {example, innerOf(bad, kid("a", 1, 0, 0, 1)), api.ErrRef},
		"the same low twice":            {example, innerOf(lows("a", "a")...), api.ErrNode},
		"falling":                       {example, innerOf(lows("b", "a")...), api.ErrNode},
		"falling at the end":            {example, innerOf(lows("a", "b", "d", "c")...), api.ErrNode},
		"falling in the midst":          {example, innerOf(lows("a", "c", "b", "d")...), api.ErrNode},
		"the first one again":           {example, innerOf(lows("a", "b", "a")...), api.ErrNode},
		"a beginning behind":            {example, innerOf(lows("ab", "a")...), api.ErrNode},
		"falling ahead of a bad one":    {example, innerOf(kid("b", 1, 0, 0, 1), kid("a", 1, 0, 0, 1), bad), api.ErrNode},
		"one both long and falling":     {example, innerOf(lows("y", long(9))...), api.ErrTooBig},
		"the last of four is bad":       {example, innerOf(append(lows("a", "aa", "b"), bad)...), api.ErrRef},
	}
}

// formless are terms that may be, but are no node's by their form.
func formless() map[string]api.Term {
	right := rowOf(number(7), atom("x"), atom("n"))
	versions := map[string]api.Term{
		"an atom":                  atom("x"),
		"an empty row":             rowOf(),
		"of two":                   rowOf(number(7), atom("x")),
		"of four":                  rowOf(number(7), atom("x"), atom("n"), atom("o")),
		"a key as its number":      rowOf(key(7), atom("x"), atom("n")),
		"an atom as its number":    rowOf(atom("1"), atom("x"), atom("n")),
		"a number as its value":    rowOf(number(7), number(1), atom("n")),
		"a number as its note":     rowOf(number(7), atom("x"), number(1)),
		"a row as its value":       rowOf(number(7), rowOf(), atom("n")),
		"a row as its note":        rowOf(number(7), atom("x"), rowOf(atom("n"))),
		"its number behind":        rowOf(atom("x"), atom("n"), number(7)),
		"a number of 2^31":         rowOf(number(1<<31), atom("x"), atom("n")),
		"a number of 2^32 + 7":     rowOf(number(1<<32+7), atom("x"), atom("n")),
		"a number of 2^63 + 7":     rowOf(number(1<<63+7), atom("x"), atom("n")),
		"the greatest number":      rowOf(number(math.MaxUint64), atom("x"), atom("n")),
		"in a box":                 {Kind: api.Box, Num: 7, List: []api.Term{right}},
		"in a row more":            rowOf(right),
		"a box that is like a row": {Kind: api.Box, List: []api.Term{number(7)}},
	}
	kids := map[string]api.Term{
		"an atom":               atom("b"),
		"an empty row":          rowOf(),
		"of four":               rowOf(atom("b"), key(9), number(1), number(2)),
		"of six":                rowOf(atom("b"), key(9), number(1), number(2), number(3), number(4)),
		"a number as its key":   rowOf(atom("b"), number(9), number(1), number(2), number(3)),
		"a number as its low":   rowOf(number(1), key(9), number(1), number(2), number(3)),
		"a row as its low":      rowOf(rowOf(), key(9), number(1), number(2), number(3)),
		"a key as its Seg":      rowOf(atom("b"), key(9), key(1), number(2), number(3)),
		"a key as its Off":      rowOf(atom("b"), key(9), number(1), key(2), number(3)),
		"a key as its Len":      rowOf(atom("b"), key(9), number(1), number(2), key(3)),
		"an atom as its Len":    rowOf(atom("b"), key(9), number(1), number(2), atom("3")),
		"a Seg of 2^31":         rowOf(atom("b"), key(9), number(1<<31), number(2), number(3)),
		"an Off of 2^31":        rowOf(atom("b"), key(9), number(1), number(1<<31), number(3)),
		"a Len of 2^31":         rowOf(atom("b"), key(9), number(1), number(2), number(1<<31)),
		"a Seg of 2^32":         rowOf(atom("b"), key(9), number(1<<32), number(2), number(3)),
		"an Off of 2^64 - 1":    rowOf(atom("b"), key(9), number(1), number(math.MaxUint64), number(3)),
		"a Len of 2^32 + 3":     rowOf(atom("b"), key(9), number(1), number(2), number(1<<32+3)),
		"a secret":              rowOf(atom("b"), right),
		"the low alone":         rowOf(atom("b")),
		"the low behind":        rowOf(key(9), atom("b"), number(1), number(2), number(3)),
		"in a row more":         rowOf(rowOf(atom("b"), key(9), number(1), number(2), number(3))),
		"the reference in rows": rowOf(atom("b"), rowOf(key(9), number(1), number(2), number(3))),
	}
	secrets := map[string]api.Term{
		"an atom":          atom("b"),
		"an empty row":     rowOf(),
		"a number as name": rowOf(number(1), right),
		"a row as name":    rowOf(rowOf(), right),
		"no name":          rowOf(right),
		"the name behind":  rowOf(right, atom("b")),
		"a kid":            rowOf(atom("b"), key(9), number(1), number(2), number(3)),
		"a version flat":   rowOf(atom("b"), number(1), atom("x"), atom("n")),
		"in a box":         {Kind: api.Box, Num: 7, List: []api.Term{rowOf(atom("b"), right)}},
	}
	all := map[string]api.Term{
		"a number":              number(1),
		"an atom":               atom("\x01"),
		"a key":                 key(1),
		"an empty row":          rowOf(),
		"a row of an atom":      rowOf(atom("\x01")),
		"a row of a key":        rowOf(key(1)),
		"a row of a row":        rowOf(rowOf(number(1))),
		"the kind 0":            rowOf(number(0)),
		"the chapter's kind 3":  rowOf(number(3)),
		"the kind 2^32 + 1":     rowOf(number(1<<32 + 1)),
		"the kind 2^64 - 1":     rowOf(number(math.MaxUint64)),
		"the kind 3, a secret":  rowOf(number(3), rowOf(atom("a"), right)),
		"the kind behind":       rowOf(rowOf(atom("a"), right), number(1)),
		"the kind twice":        rowOf(number(1), number(1)),
		"the kind 2 twice":      rowOf(number(2), number(2)),
		"a box of an empty one": {Kind: api.Box, Num: 7, List: []api.Term{rowOf(number(1))}},
		"a box of the kind":     {Kind: api.Box, Num: 1, List: []api.Term{number(1)}},
		"a leaf of kids":        rowOf(number(1), termOf(innerOf(lows("a", "b")...)).List[1]),
		"an inner one of a":     rowOf(number(2), rowOf(atom("a"), right), rowOf(atom("b"), right)),
	}
	// What is wrong by its form is told ahead of all else that is wrong, wherever it stands.
	for name, t := range versions {
		all["a version: "+name] = rowOf(number(1), rowOf(atom("a"), t))
		all["behind a right version: "+name] = rowOf(number(1), rowOf(atom("a"), right, t))
		all["behind a secret without a name: "+name] = rowOf(number(1), rowOf(atom("")), rowOf(atom("a"), t, right))
	}
	for name, t := range secrets {
		all["a secret: "+name] = rowOf(number(1), t)
		all["behind a long name: "+name] = rowOf(number(1), rowOf(atom(long(99)), right), t)
		all["ahead of a right secret: "+name] = rowOf(number(1), t, rowOf(atom("c"), right))
	}
	first := rowOf(atom("a"), key(9), number(1), number(2), number(3))
	for name, t := range kids {
		all["a kid: "+name] = rowOf(number(2), first, t)
		all["behind a kid without a low: "+name] = rowOf(number(2), rowOf(atom(""), key(9), number(1), number(2), number(3)), t)
		all["ahead of a right kid: "+name] = rowOf(number(2), t, first)
	}
	return all
}

// refuses looks whether a call answered that error, and no node beside it (R2).
func refuses(t *testing.T, name string, want api.Errno) func(api.Node, api.Errno) {
	return func(n api.Node, err api.Errno) {
		t.Helper()
		if err != want || !same(n, api.Node{}) {
			t.Errorf("%s: %d, want %d (beside it %v)", name, err, want, n)
		}
	}
}

// answers looks whether a call answered that node.
func answers(t *testing.T, name string, want api.Node) func(api.Node, api.Errno) {
	return func(n api.Node, err api.Errno) {
		t.Helper()
		if err != api.OK || !same(n, want) {
			t.Errorf("%s: %v, %d, want %v", name, n, err, want)
		}
	}
}

// places are all places of all lists of a node, spare room too; of a term those of its lists.
func places(n api.Node) []any {
	var all []any
	for i := range n.Entries[:cap(n.Entries)] {
		e := &n.Entries[:cap(n.Entries)][i]
		all = append(all, e)
		for j := range e.Versions[:cap(e.Versions)] {
			all = append(all, &e.Versions[:cap(e.Versions)][j])
		}
	}
	for i := range n.Kids[:cap(n.Kids)] {
		all = append(all, &n.Kids[:cap(n.Kids)][i])
	}
	return all
}

func termPlaces(t api.Term) []any {
	var all []any
	for i := range t.List[:cap(t.List)] {
		part := &t.List[:cap(t.List)][i]
		all = append(all, part)
		all = append(all, termPlaces(*part)...)
	}
	return all
}

// shared tells whether a place of the answers is one of what was given, or comes twice in them.
func shared(given, answered []any) bool {
	seen := map[any]bool{}
	for _, p := range given {
		seen[p] = true
	}
	for _, p := range answered {
		if seen[p] {
			return true
		}
		seen[p] = true
	}
	return false
}
