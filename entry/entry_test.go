package entry

import (
	"math"
	"slices"
	"testing"

	"lethe/api"
)

// P5.1: what may be, at the edges too; what may not be, and the first error of several.
func TestRight(t *testing.T) {
	for _, table := range []map[string]judged{fitting(), wrong(), versionless()} {
		for name, x := range table {
			if err := Right(x.q, x.e); err != x.w {
				t.Errorf("%s: %d, want %d", name, err, x.w)
			}
		}
	}
}

// P5.1: over all numbers of three versions at the edges, and one long value or note in any place: the first thing wrong is told.
func TestRightOfAllNumbers(t *testing.T) {
	q := example
	q.Versions = 3
	numbers := []int{math.MinInt, -1, 0, 1, 2, 3, api.MaxNo - 1, api.MaxNo, api.MaxNo + 1, math.MaxInt}
	for _, a := range numbers {
		for _, b := range numbers {
			for _, c := range numbers {
				for place := -1; place < 3; place++ {
					e := secret("a", bare(a, b, c)...)
					want := api.OK
					switch {
					case a < 1 || a > api.MaxNo:
						want = api.ErrEntry
					case place == 0:
						want = api.ErrTooBig
					case b <= a || b > api.MaxNo:
						want = api.ErrEntry
					case place == 1:
						want = api.ErrTooBig
					case c <= b || c > api.MaxNo:
						want = api.ErrEntry
					case place == 2:
						want = api.ErrTooBig
					}
					for _, v := range []api.Version{{Value: long(11)}, {Note: long(5)}} {
						if place >= 0 {
							v.No = e.Versions[place].No
							e.Versions[place] = v
						}
						if err := Right(q, e); err != want {
							t.Fatalf("%v: %d, want %d", e, err, want)
						}
					}
				}
			}
		}
	}
}

// P5.1: each part of a quota that may not be is enough.
func TestQuotasThatMayNotBe(t *testing.T) {
	for name, spoil := range map[string]func(q *api.Quota){
		"Secrets":   func(q *api.Quota) { q.Secrets = 0 },
		"Name":      func(q *api.Quota) { q.Name = 17 },
		"Value":     func(q *api.Quota) { q.Value = -1 },
		"Note":      func(q *api.Quota) { q.Note = 17 },
		"Versions":  func(q *api.Quota) { q.Versions = 5 },
		"no number": func(q *api.Quota) { q.Versions = math.MinInt },
		"Batch":     func(q *api.Quota) { q.Batch = 9 },
		"Cache":     func(q *api.Quota) { q.Cache = -1 },
	} {
		q := example
		spoil(&q)
		for _, e := range []api.Entry{secret("a", bare(1)...), secret("a"), secret("")} {
			if err := Right(q, e); err != api.ErrQuota {
				t.Errorf("%s: Right: %d", name, err)
			}
			for call, renew := range renewals {
				refuses(t, call+", "+name, api.ErrQuota)(renew(q, e, "", ""))
			}
		}
	}
}

// P5.2: the new version comes last; of too many the oldest one drops.
func TestPut(t *testing.T) {
	three, one := example, example
	three.Versions, one.Versions = 3, 1
	fills(t, "the chapter's new one", secret("a", ver(1, "x", "n")))(Put(example, secret("a"), "x", "n"))
	fills(t, "the chapter's full one", secret("a", ver(2, "y", "n"), ver(3, "z", "")), ver(1, "x", "n"))(
		Put(example, secret("a", ver(1, "x", "n"), ver(2, "y", "n")), "z", ""))
	fills(t, "an empty list", secret("a", ver(1, "x", "")))(Put(example, secret("a", []api.Version{}...), "x", ""))
	fills(t, "one more", secret("a", ver(1, "x", "n"), ver(2, "y", "m")))(Put(example, secret("a", ver(1, "x", "n")), "y", "m"))
	fills(t, "just as many as may be", secret("a", bare(4, 6, 7)...))(Put(three, secret("a", bare(4, 6)...), "", ""))
	fills(t, "one too many", secret("a", bare(6, 9, 10)...), ver(4, "", ""))(Put(three, secret("a", bare(4, 6, 9)...), "", ""))
	fills(t, "one alone may be", secret("a", ver(2, "y", "")), ver(1, "x", "n"))(Put(one, secret("a", ver(1, "x", "n")), "y", ""))
	fills(t, "one alone, new", secret("a", ver(1, "y", "")))(Put(one, secret("a"), "y", ""))
	fills(t, "the same once more", secret("a", ver(1, "x", "n"), ver(2, "x", "n")))(Put(example, secret("a", ver(1, "x", "n")), "x", "n"))
	fills(t, "the longest of each", secret(long(8), ver(1, long(10), long(4))))(Put(example, secret(long(8)), long(10), long(4)))
	fills(t, "nothing may be long", secret("a", bare(2)...), ver(1, "", ""))(Put(least, secret("a", bare(1)...), "", ""))
	fills(t, "to the greatest number", secret("a", bare(5, api.MaxNo-1, api.MaxNo)...), ver(1, "", ""))(
		Put(three, secret("a", bare(1, 5, api.MaxNo-1)...), "", ""))
}

// P5.2: of Over all versions of before drop, in order, also where there would be room for them.
func TestOver(t *testing.T) {
	fills(t, "the chapter's", secret("a", ver(3, "z", "")), ver(1, "x", "n"), ver(2, "y", "n"))(
		Over(example, secret("a", ver(1, "x", "n"), ver(2, "y", "n")), "z", ""))
	fills(t, "new", secret("a", ver(1, "x", "n")))(Over(example, secret("a"), "x", "n"))
	fills(t, "an empty list", secret("a", ver(1, "x", "")))(Over(example, secret("a", []api.Version{}...), "x", ""))
	fills(t, "not full", secret("a", ver(8, "y", "m")), ver(7, "x", "n"))(Over(example, secret("a", ver(7, "x", "n")), "y", "m"))
	fills(t, "one alone may be", secret("a", bare(2)...), ver(1, "", ""))(Over(least, secret("a", bare(1)...), "", ""))
	fills(t, "four", secret("a", ver(11, long(32), long(16))), bare(1, 3, 4, 10)...)(
		Over(greatest, secret("a", bare(1, 3, 4, 10)...), long(32), long(16)))
	fills(t, "to the greatest number", secret("a", bare(api.MaxNo)...), bare(1, api.MaxNo-1)...)(
		Over(example, secret("a", bare(1, api.MaxNo-1)...), "", ""))
}

// P5.2: Right's error comes first, whatever is put; a secret without versions is let by, if the rest of it may be.
func TestRenewalsOfWrongSecrets(t *testing.T) {
	for call, renew := range renewals {
		for _, table := range []map[string]judged{wrong(), versionless()} {
			for name, x := range table {
				if x.w == api.ErrEntry && len(x.e.Versions) == 0 {
					fills(t, call+", "+name, secret(x.e.Name, bare(1)...))(renew(x.q, x.e, "", ""))
					refuses(t, call+", "+name, api.ErrTooBig)(renew(x.q, x.e, long(33), long(17)))
					continue
				}
				refuses(t, call+", "+name, x.w)(renew(x.q, x.e, "", ""))
				refuses(t, call+" of much, "+name, x.w)(renew(x.q, x.e, long(33), long(17)))
			}
		}
	}
}

// P5.2: a value or a note that is too long, ahead of a number that can't rise.
func TestRenewalsThatMayNotBe(t *testing.T) {
	last := secret("a", bare(1, api.MaxNo)...)
	alone := secret("a", bare(api.MaxNo)...)
	for call, renew := range renewals {
		for _, e := range []api.Entry{secret("a"), secret("a", bare(1)...), secret("a", bare(1, 2)...), last, alone} {
			refuses(t, call+" of a long value", api.ErrTooBig)(renew(example, e, long(11), ""))
			refuses(t, call+" of a long note", api.ErrTooBig)(renew(example, e, "", long(5)))
			refuses(t, call+" of both", api.ErrTooBig)(renew(example, e, long(11), long(5)))
		}
		refuses(t, call+" of a value of which none may be", api.ErrTooBig)(renew(least, secret("a"), "x", ""))
		refuses(t, call+" of a note of which none may be", api.ErrTooBig)(renew(least, secret("a"), "", "n"))
		refuses(t, call+" behind the greatest number", api.ErrLong)(renew(example, last, "x", "n"))
		refuses(t, call+" behind the greatest number alone", api.ErrLong)(renew(example, alone, "", ""))
		refuses(t, call+" behind the greatest number, the least quota", api.ErrLong)(renew(least, alone, "", ""))
		refuses(t, call+" behind the greatest number, the greatest quota", api.ErrLong)(renew(greatest, last, "", ""))
	}
}

// P5.3: of any secret, right or not.
func TestLast(t *testing.T) {
	for name, x := range map[string]struct {
		e    api.Entry
		want api.Version
		is   bool
	}{
		"none":                  {secret("a"), api.Version{}, false},
		"an empty list":         {secret("a", []api.Version{}...), api.Version{}, false},
		"nothing":               {secret(""), api.Version{}, false},
		"one":                   {secret("a", ver(1, "x", "n")), ver(1, "x", "n"), true},
		"one of zeros":          {secret("a", ver(0, "", "")), api.Version{}, true},
		"two":                   {secret("a", ver(1, "x", "n"), ver(2, "y", "m")), ver(2, "y", "m"), true},
		"no name":               {secret("", ver(1, "x", "n")), ver(1, "x", "n"), true},
		"falling":               {secret("a", ver(9, "x", ""), ver(-3, "y", "")), ver(-3, "y", ""), true},
		"the same number":       {secret("a", ver(2, "x", ""), ver(2, "y", "")), ver(2, "y", ""), true},
		"many, very long ones":  {secret(long(99), append(make([]api.Version, 1000), ver(5, long(5000), long(999)))...), ver(5, long(5000), long(999)), true},
		"a number beyond MaxNo": {secret("a", bare(math.MaxInt)...), ver(math.MaxInt, "", ""), true},
	} {
		if v, is := Last(x.e); v != x.want || is != x.is {
			t.Errorf("%s: %v, %v", name, v, is)
		}
	}
}

// P5.3: the first one of a number, of any secret; any number may be asked for.
func TestAt(t *testing.T) {
	odd := secret("", ver(5, "x", ""), ver(-1, "y", "n"), ver(5, "z", ""), ver(0, "", "o"), ver(math.MinInt, "l", ""), ver(-1, "w", ""), ver(math.MaxInt, "g", ""))
	right := secret("a", ver(2, "x", "n"), ver(7, "y", "m"))
	for _, x := range []struct {
		e    api.Entry
		no   int
		want api.Version
		is   bool
	}{
		{right, 2, ver(2, "x", "n"), true}, {right, 7, ver(7, "y", "m"), true},
		{right, 0, api.Version{}, false}, {right, 1, api.Version{}, false}, {right, 3, api.Version{}, false}, {right, 8, api.Version{}, false},
		{right, -2, api.Version{}, false}, {right, math.MinInt, api.Version{}, false}, {right, math.MaxInt, api.Version{}, false},
		{right, 2 + 1<<32, api.Version{}, false},
		{odd, 5, ver(5, "x", ""), true}, {odd, -1, ver(-1, "y", "n"), true}, {odd, 0, ver(0, "", "o"), true},
		{odd, math.MinInt, ver(math.MinInt, "l", ""), true}, {odd, math.MaxInt, ver(math.MaxInt, "g", ""), true},
		{odd, 1, api.Version{}, false}, {odd, 4, api.Version{}, false},
		{secret("a"), 0, api.Version{}, false}, {secret("a"), 1, api.Version{}, false},
		{secret("a", []api.Version{}...), 0, api.Version{}, false},
		{secret("a", bare(0)...), 0, api.Version{}, true},
	} {
		if v, is := At(x.e, x.no); v != x.want || is != x.is {
			t.Errorf("%v at %d: %v, %v", x.e, x.no, v, is)
		}
	}
}

// P5.4: names, values and notes of all secrets, right or not: each once, byte by byte in order.
func TestTexts(t *testing.T) {
	many := make([]api.Entry, 3000)
	for i := range many {
		many[i] = secret(long(i%7), ver(1, long(i%5), "y"))
	}
	for name, x := range map[string]struct {
		l    []api.Entry
		want []string
	}{
		"none":                     {nil, nil},
		"the chapter's":            {[]api.Entry{secret("a", ver(1, "x", "n")), secret("x", ver(1, "b", ""))}, []string{"", "a", "b", "n", "x"}},
		"a secret of nothing":      {[]api.Entry{{}}, []string{""}},
		"without versions":         {[]api.Entry{secret("a")}, []string{"a"}},
		"all different":            {[]api.Entry{secret("c", ver(1, "b", "a"))}, []string{"a", "b", "c"}},
		"all alike":                {[]api.Entry{secret("a", ver(1, "a", "a"), ver(2, "a", "a")), secret("a", ver(1, "a", "a"))}, []string{"a"}},
		"each version's":           {[]api.Entry{secret("s", ver(1, "x", "n"), ver(2, "y", "m"), ver(3, "x", "o"))}, []string{"m", "n", "o", "s", "x", "y"}},
		"a name that is a value":   {[]api.Entry{secret("b", ver(1, "a", "c")), secret("a", ver(1, "c", "b"))}, []string{"a", "b", "c"}},
		"a beginning comes ahead":  {[]api.Entry{secret("ab", ver(1, "abc", "a")), secret("b", ver(1, "aa", ""))}, []string{"", "a", "aa", "ab", "abc", "b"}},
		"bytes, not letters":       {[]api.Entry{secret("\xff", ver(1, "\x00", "é")), secret("Z", ver(1, "a", "\x7f\xff"))}, []string{"\x00", "Z", "a", "\x7f\xff", "é", "\xff"}},
		"numbers are not texts":    {[]api.Entry{secret("a", ver(12, "x", "y"))}, []string{"a", "x", "y"}},
		"secrets that may not be":  {[]api.Entry{secret("", ver(-1, long(50), "n"), ver(-1, "", long(20)))}, []string{"", "n", long(20), long(50)}},
		"two of the same name":     {[]api.Entry{secret("a", ver(1, "x", "")), secret("a", ver(1, "y", ""))}, []string{"", "a", "x", "y"}},
		"nothing behind something": {[]api.Entry{secret("a", ver(1, "x", "n")), {}}, []string{"", "a", "n", "x"}},
		"very many":                {many, []string{"", "x", "xx", "xxx", "xxxx", "xxxxx", "xxxxxx", "y"}},
	} {
		if got := Texts(x.l...); !slices.Equal(got, x.want) {
			t.Errorf("%s: %q, want %q", name, got, x.want)
		}
		slices.Reverse(x.l)
		if got := Texts(x.l...); !slices.Equal(got, x.want) {
			t.Errorf("%s, the other way round: %q, want %q", name, got, x.want)
		}
	}
}

// step is a call of a row of them.
type step struct {
	over bool
	v    api.Version
}

// P5.5: all rows of up to seven calls, from a new secret on: what is answered may be, its last version is what was put, and nothing comes or goes but by dropping.
func TestRenewalsOneBehindTheOther(t *testing.T) {
	for _, q := range quotas() {
		for calls := range 1 << 7 {
			e := secret("a")
			var model []api.Version
			for i := range 7 {
				s := step{calls>>i&1 == 1, ver(i+1, long(min(i, q.Value)), long(min(7-i, q.Note)))}
				model = append(model, s.v)
				stay := 1
				if !s.over {
					stay = min(len(model), q.Versions)
				}
				dropped := model[:len(model)-stay]
				model = model[len(model)-stay:]
				e = renewedBy(t, q, e, s, dropped)
				if !same(e, secret("a", model...)) {
					t.Fatalf("%v, calls %b: %v, want %v", q, calls, e, model)
				}
			}
		}
	}
}

// renewedBy plays one call, and looks at its answer.
func renewedBy(t *testing.T, q api.Quota, e api.Entry, s step, dropped []api.Version) api.Entry {
	t.Helper()
	renew := Put
	if s.over {
		renew = Over
	}
	made, l, err := renew(q, e, s.v.Value, s.v.Note)
	if err != api.OK || Right(q, made) != api.OK || !slices.Equal(l, dropped) {
		t.Fatalf("%v to %v: %v, dropped %v, %d, want dropped %v", s, e, made, l, err, dropped)
	}
	if v, is := Last(made); !is || v != s.v {
		t.Fatalf("%v to %v: the last one is %v, %v", s, e, v, is)
	}
	return made
}

// P5.5: what dropped and what is left are what there was and the new one, of every secret that may be, or is new.
func TestNothingIsLostOrMade(t *testing.T) {
	all := fitting()
	all["new"] = judged{example, secret("a"), api.OK}
	for name, x := range all {
		last, _ := Last(x.e)
		if last.No == api.MaxNo {
			continue
		}
		v := ver(last.No+1, long(x.q.Value), long(x.q.Note))
		was := append(slices.Clone(x.e.Versions), v)
		for call, renew := range renewals {
			made, dropped, err := renew(x.q, x.e, v.Value, v.Note)
			if got := slices.Concat(dropped, made.Versions); err != api.OK || !slices.Equal(got, was) {
				t.Errorf("%s, %s: %v, %d, want %v", call, name, got, err, was)
			}
			if got, is := Last(made); !is || got != v || Right(x.q, made) != api.OK || made.Name != x.e.Name {
				t.Errorf("%s, %s: %v", call, name, made)
			}
		}
	}
}

// P5.5: what dropped is found no more, what is left is found as it was.
func TestWhatDroppedIsFoundNoMore(t *testing.T) {
	e := secret("a", ver(3, "x", "n"), ver(5, "y", "m"))
	for call, renew := range renewals {
		made, dropped, _ := renew(example, e, "z", "o")
		for _, v := range dropped {
			if got, is := At(made, v.No); is {
				t.Errorf("%s: %v dropped, and is found as %v", call, v, got)
			}
		}
		for _, v := range made.Versions {
			if got, is := At(made, v.No); !is || got != v {
				t.Errorf("%s: %v is found as %v, %v", call, v, got, is)
			}
		}
	}
	if made, _, _ := Put(example, e, "z", "o"); !slices.Equal(Texts(made), []string{"a", "m", "o", "y", "z"}) {
		t.Errorf("Put: %q", Texts(made))
	}
	if made, _, _ := Over(example, e, "z", "o"); !slices.Equal(Texts(made), []string{"a", "o", "z"}) {
		t.Errorf("Over: %q", Texts(made))
	}
}

// R4: no list of an answer, nor its spare room, is the argument's, the other list's, or another answer's; nothing that was handed in is changed, nor the room behind it.
func TestAnswersAreNewMemory(t *testing.T) {
	room := []api.Version{ver(1, "x", "n"), ver(2, "y", "m"), ver(71, "r", ""), ver(72, "s", "")}
	before := slices.Clone(room)
	for versions := 1; versions <= api.MaxVersions; versions++ {
		q := example
		q.Versions = versions
		for n := range min(versions, 2) + 1 {
			for call, renew := range renewals {
				lists := [][]api.Version{room}
				for range 2 {
					e, dropped, err := renew(q, secret("a", room[:n]...), "z", "")
					if err != api.OK {
						t.Fatalf("%s to %d of %d: %d", call, n, versions, err)
					}
					lists = append(lists, e.Versions[:cap(e.Versions)], dropped[:cap(dropped)])
				}
				if shared(lists) {
					t.Errorf("%s to %d of %d: two lists share memory", call, n, versions)
				}
				if !slices.Equal(room, before) {
					t.Fatalf("%s to %d of %d: what was handed in was changed: %v", call, n, versions, room)
				}
			}
		}
	}
}

// R4: the spare room of an answer holds nothing of what dropped.
func TestSpareRoomHoldsNothing(t *testing.T) {
	e := secret("a", ver(1, "x", "n"), ver(2, "y", "m"))
	for call, renew := range renewals {
		made, dropped, _ := renew(example, e, "z", "")
		for _, l := range [][]api.Version{made.Versions, dropped} {
			for _, v := range l[len(l):cap(l)] {
				if v != (api.Version{}) {
					t.Errorf("%s: %v stands behind the end", call, v)
				}
			}
		}
	}
}

// R4: writing over what was answered, or handed in, shows nowhere.
func TestTextsAreNewMemory(t *testing.T) {
	room := []api.Entry{secret("b", ver(1, "x", "n")), secret("a", ver(1, "y", "m")), secret("r", ver(1, "s", ""))}
	want := []string{"a", "b", "m", "n", "x", "y"}
	first, second := Texts(room[:2]...), Texts(room[:2]...)
	clear(first[:cap(first)])
	if !slices.Equal(second, want) || !slices.Equal(Texts(room[:2]...), want) {
		t.Errorf("an answer shares memory with another one: %q", second)
	}
	if !same(room[0], secret("b", ver(1, "x", "n"))) || !same(room[1], secret("a", ver(1, "y", "m"))) || !same(room[2], secret("r", ver(1, "s", ""))) {
		t.Errorf("what was handed in was changed: %v", room)
	}
	clear(room)
	if !slices.Equal(second, want) {
		t.Errorf("an answer hangs on what was handed in: %q", second)
	}
}
