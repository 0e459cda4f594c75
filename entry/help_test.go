package entry

import (
	"math"
	"slices"
	"strings"
	"testing"

	"lethe/api"
)

// example is the chapter's; least and greatest are at the edges.
var (
	example  = api.Quota{Secrets: 10, Name: 8, Value: 10, Note: 4, Versions: 2, Batch: 2, Cache: 3}
	least    = api.Quota{Secrets: 1, Name: 1, Versions: 1, Batch: 1}
	greatest = api.Quota{Secrets: 64, Name: 16, Value: 32, Note: 16, Versions: 4, Batch: 8, Cache: 32}
)

// renewals are both calls that put a version, by their names.
var renewals = map[string]func(q api.Quota, e api.Entry, value, note string) (api.Entry, []api.Version, api.Errno){
	"Put":  Put,
	"Over": Over,
}

func ver(no int, value, note string) api.Version {
	return api.Version{No: no, Value: value, Note: note}
}

// bare are versions of these numbers, without values and notes.
func bare(numbers ...int) []api.Version {
	var l []api.Version
	for _, n := range numbers {
		l = append(l, api.Version{No: n})
	}
	return l
}

func secret(name string, l ...api.Version) api.Entry {
	return api.Entry{Name: name, Versions: l}
}

func long(n int) string { return strings.Repeat("x", n) }

// same takes nil and an empty list as one (R5).
func same(a, b api.Entry) bool {
	return a.Name == b.Name && slices.Equal(a.Versions, b.Versions)
}

// judged is a secret, by a quota, and what Right tells of it.
type judged struct {
	q api.Quota
	e api.Entry
	w api.Errno
}

// fitting are secrets that may be, at the edges too.
func fitting() map[string]judged {
	return map[string]judged{
		"the chapter's":                {example, secret("a", ver(1, "x", "n"), ver(2, "y", "n")), api.OK},
		"one version":                  {example, secret("a", ver(1, "", "")), api.OK},
		"a first number above 1":       {example, secret("a", bare(7)...), api.OK},
		"numbers far apart":            {example, secret("a", bare(1, api.MaxNo)...), api.OK},
		"the greatest number":          {example, secret("a", bare(api.MaxNo)...), api.OK},
		"the greatest numbers":         {example, secret("a", bare(api.MaxNo-1, api.MaxNo)...), api.OK},
		"the longest name":             {example, secret(long(8), bare(1)...), api.OK},
		"any bytes":                    {example, secret("\x00\xff\n", ver(1, "\x00", "\xff\xfe")), api.OK},
		"the longest value":            {example, secret("a", ver(1, long(10), "")), api.OK},
		"the longest note":             {example, secret("a", ver(1, "", long(4))), api.OK},
		"the longest of each, twice":   {example, secret(long(8), ver(1, long(10), long(4)), ver(2, long(10), long(4))), api.OK},
		"the least quota":              {least, secret("a", bare(1)...), api.OK},
		"the least quota, a late one":  {least, secret("\x00", bare(api.MaxNo)...), api.OK},
		"the greatest quota":           {greatest, secret(long(16), ver(3, long(32), long(16)), ver(4, "", ""), ver(9, long(32), ""), ver(10, "", long(16))), api.OK},
		"the greatest quota, not full": {greatest, secret("a", bare(1, 2, 3)...), api.OK},
	}
}

// wrong are secrets that may not be; of most of them more than one thing is wrong, of which the first is told (R3).
func wrong() map[string]judged {
	none := api.Quota{}
	over := example
	over.Cache = 33
	return map[string]judged{
		"no quota":                              {none, secret("a", bare(1)...), api.ErrQuota},
		"no quota, no secret":                   {none, secret(""), api.ErrQuota},
		"a quota that is too great":             {over, secret("a", bare(1)...), api.ErrQuota},
		"a quota that is too great, a bad name": {over, secret(""), api.ErrQuota},
		"a quota that is too great, versions":   {over, secret("a", bare(2, 2, 2)...), api.ErrQuota},

		"no name":                      {example, secret("", bare(1)...), api.ErrName},
		"no name, too many versions":   {example, secret("", bare(1, 2, 3)...), api.ErrName},
		"no name, a bad number":        {example, secret("", bare(0)...), api.ErrName},
		"no name, a long value":        {example, secret("", ver(1, long(11), "")), api.ErrName},
		"a name of nine bytes":         {example, secret(long(9), bare(1)...), api.ErrTooBig},
		"a long name, many versions":   {example, secret(long(9), bare(1, 2, 3)...), api.ErrTooBig},
		"a long name, a bad number":    {example, secret(long(9), bare(0)...), api.ErrTooBig},
		"a very long name":             {example, secret(long(100000), bare(1)...), api.ErrTooBig},
		"a long name, the least quota": {least, secret("ab", bare(1)...), api.ErrTooBig},
		"a long name, the greatest":    {greatest, secret(long(17), bare(1)...), api.ErrTooBig},

		"a version too many":             {example, secret("a", bare(1, 2, 3)...), api.ErrEntry},
		"two, the least quota":           {least, secret("a", bare(1, 2)...), api.ErrEntry},
		"five, the greatest quota":       {greatest, secret("a", bare(1, 2, 3, 4, 5)...), api.ErrEntry},
		"a version too many, long value": {example, secret("a", ver(1, long(11), ""), ver(2, "", ""), ver(3, "", "")), api.ErrEntry},
		"very many versions":             {example, secret("a", make([]api.Version, 100000)...), api.ErrEntry},

		"number 0":                     {example, secret("a", bare(0)...), api.ErrEntry},
		"number 0, a long value":       {example, secret("a", ver(0, long(11), "")), api.ErrEntry},
		"a number below 0":             {example, secret("a", bare(-1)...), api.ErrEntry},
		"the least number of all":      {example, secret("a", bare(math.MinInt)...), api.ErrEntry},
		"from below 0 on":              {example, secret("a", bare(-1, 1)...), api.ErrEntry},
		"from 0 on":                    {example, secret("a", bare(0, 1)...), api.ErrEntry},
		"the same number twice":        {example, secret("a", ver(2, "x", ""), ver(2, "y", "")), api.ErrEntry},
		"falling numbers":              {example, secret("a", bare(2, 1)...), api.ErrEntry},
		"to 0":                         {example, secret("a", bare(1, 0)...), api.ErrEntry},
		"falling at the end":           {greatest, secret("a", bare(1, 2, 4, 3)...), api.ErrEntry},
		"falling in the midst":         {greatest, secret("a", bare(1, 5, 3, 6)...), api.ErrEntry},
		"below the first one":          {greatest, secret("a", bare(3, 4, 2)...), api.ErrEntry},
		"a number above MaxNo":         {example, secret("a", bare(api.MaxNo+1)...), api.ErrEntry},
		"MaxNo and one more":           {example, secret("a", bare(api.MaxNo, api.MaxNo+1)...), api.ErrEntry},
		"the greatest number of all":   {example, secret("a", bare(1, math.MaxInt)...), api.ErrEntry},
		"a number above MaxNo, a note": {example, secret("a", ver(api.MaxNo+1, "", long(5))), api.ErrEntry},

		"a long value":                    {example, secret("a", ver(1, long(11), "")), api.ErrTooBig},
		"a long note":                     {example, secret("a", ver(1, "", long(5))), api.ErrTooBig},
		"a long value behind a right one": {example, secret("a", ver(1, "", ""), ver(2, long(11), "")), api.ErrTooBig},
		"a long note behind a right one":  {example, secret("a", ver(1, "", ""), ver(2, "", long(5))), api.ErrTooBig},
		"any value, the least quota":      {least, secret("a", ver(1, "x", "")), api.ErrTooBig},
		"any note, the least quota":       {least, secret("a", ver(1, "", "n")), api.ErrTooBig},
		"33 bytes, the greatest quota":    {greatest, secret("a", ver(1, long(33), "")), api.ErrTooBig},
		"17 bytes, the greatest quota":    {greatest, secret("a", ver(1, "", long(17))), api.ErrTooBig},
		"a long value, then a bad number": {example, secret("a", ver(1, long(11), ""), ver(1, "", "")), api.ErrTooBig},
		"a long note, then a bad number":  {example, secret("a", ver(1, "", long(5)), ver(0, "", "")), api.ErrTooBig},
		"a bad number, then a long value": {example, secret("a", ver(0, "", ""), ver(2, long(11), "")), api.ErrEntry},
		"a bad number at a long value":    {example, secret("a", ver(2, "", ""), ver(2, long(11), "")), api.ErrEntry},
	}
}

// versionless are secrets without versions: by Right they may not be, but what is new may have one put.
func versionless() map[string]judged {
	return map[string]judged{
		"no quota":        {api.Quota{}, secret("a"), api.ErrQuota},
		"nothing at all":  {api.Quota{}, secret(""), api.ErrQuota},
		"no name":         {example, secret(""), api.ErrName},
		"a long name":     {example, secret(long(9)), api.ErrTooBig},
		"new":             {example, secret("a"), api.ErrEntry},
		"the longest new": {example, secret(long(8)), api.ErrEntry},
		"an empty list":   {example, secret("a", []api.Version{}...), api.ErrEntry},
		"the least new":   {least, secret("a"), api.ErrEntry},
	}
}

// quotas are those of each number of versions that may be, with short and long values.
func quotas() []api.Quota {
	var all []api.Quota
	for n := 1; n <= api.MaxVersions; n++ {
		for _, q := range []api.Quota{least, example, greatest} {
			q.Versions = n
			all = append(all, q)
		}
	}
	return all
}

// fills looks whether a call answered that secret, and that this dropped.
func fills(t *testing.T, name string, want api.Entry, dropped ...api.Version) func(api.Entry, []api.Version, api.Errno) {
	return func(e api.Entry, l []api.Version, err api.Errno) {
		t.Helper()
		if err != api.OK || !same(e, want) || !slices.Equal(l, dropped) {
			t.Errorf("%s: %v, dropped %v, %d, want %v, dropped %v", name, e, l, err, want, dropped)
		}
	}
}

// refuses looks whether a call answered that error, and nothing beside it (R2).
func refuses(t *testing.T, name string, want api.Errno) func(api.Entry, []api.Version, api.Errno) {
	return func(e api.Entry, l []api.Version, err api.Errno) {
		t.Helper()
		if err != want || !same(e, api.Entry{}) || len(l) != 0 {
			t.Errorf("%s: %d, want %d (beside it %v, %v)", name, err, want, e, l)
		}
	}
}

// shared tells whether two places of these lists are one.
func shared(lists [][]api.Version) bool {
	seen := map[*api.Version]bool{}
	for _, l := range lists {
		for i := range l {
			if seen[&l[i]] {
				return true
			}
			seen[&l[i]] = true
		}
	}
	return false
}
