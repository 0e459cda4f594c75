package list

import (
	"math"
	"slices"
	"strings"
	"testing"

	"lethe/api"
	"lethe/tree"
)

// P8.1, P8.2: the chapter's table.
func TestExamples(t *testing.T) {
	h := tree.NewHeap()
	root := made(t, h, "c", "ab", "a", "b")
	for _, x := range []struct{ prefixes, want string }{{"a", "a ab"}, {"", "a ab b c"}, {"x", ""}, {"b a", "a ab b"}} {
		got, err := Names(h, root, strings.Fields(x.prefixes)...)
		if err != api.OK || !slices.Equal(got, strings.Fields(x.want)) {
			t.Errorf("Names(%s): %q, %d", x.prefixes, got, err)
		}
	}
	for _, x := range []struct{ from, to, want string }{{"ab", "c", "ab b"}, {"", "", "a ab b c"}, {"c", "a", ""}} {
		got, err := Range(h, root, x.from, x.to)
		if err != api.OK || !sameSecrets(got, secretsOf(strings.Fields(x.want)...)) {
			t.Errorf("Range(%s, %s): %v, %d", x.from, x.to, got, err)
		}
	}
	if n, err := Count(h, root); err != api.OK || n != 4 {
		t.Errorf("Count: %d, %d", n, err)
	}
	for n, want := range map[int]string{1: "ab", 4: "", -1: ""} {
		if e, there, err := Nth(h, root, n); err != api.OK || there != (want != "") || e.Name != want {
			t.Errorf("Nth(%d): %v, %v, %d", n, e, there, err)
		}
	}
	for name, want := range map[string]string{"aa": "a", "A": ""} {
		if e, there, err := Floor(h, root, name); err != api.OK || there != (want != "") || e.Name != want {
			t.Errorf("Floor(%s): %v, %v, %d", name, e, there, err)
		}
	}
}

// chosen are the names that a test asks for, by the chapter's words.
func chosen(names []string, is func(name string) bool) []string {
	var l []string
	for _, name := range names {
		if is(name) {
			l = append(l, name)
		}
	}
	return l
}

// starts tells it byte by byte.
func starts(name, prefix string) bool {
	return len(name) >= len(prefix) && name[:len(prefix)] == prefix
}

func namesAre(t *testing.T, p tree.Pages, root api.Ref, want []string, prefixes ...string) {
	t.Helper()
	if got, err := Names(p, root, prefixes...); err != api.OK || !slices.Equal(got, want) {
		t.Fatalf("Names(%q): %q, %d, want %q", prefixes, got, err, want)
	}
}

// P8.1: Names of no prefix, of one, of two in both orders, of the same ones several times, and of very many.
func TestNames(t *testing.T) {
	trees(t, func(p tree.Pages, root api.Ref, names []string) {
		namesAre(t, p, root, names)
		namesAre(t, p, root, names, "")
		namesAre(t, p, root, names, "a", "")
		namesAre(t, p, root, names, "", "", "no")
		namesAre(t, p, root, names, asks()...)
		for _, x := range asks() {
			one := chosen(names, func(name string) bool { return starts(name, x) })
			namesAre(t, p, root, one, x)
			namesAre(t, p, root, one, x, x, x)
			for _, y := range []string{"a", "a\xff", "\x80", "\xff", "\xff\xff\xff\xff"} {
				two := chosen(names, func(name string) bool { return starts(name, x) || starts(name, y) })
				namesAre(t, p, root, two, x, y)
				namesAre(t, p, root, two, y, x)
				namesAre(t, p, root, two, y, "no", x, y)
			}
		}
	})
}

// P8.1: Range from each text to each other one.
func TestRange(t *testing.T) {
	trees(t, func(p tree.Pages, root api.Ref, names []string) {
		for _, from := range asks() {
			for _, to := range asks() {
				want := chosen(names, func(name string) bool {
					return strings.Compare(name, from) >= 0 && (len(to) == 0 || strings.Compare(name, to) < 0)
				})
				if got, err := Range(p, root, from, to); err != api.OK || !sameSecrets(got, secretsOf(want...)) {
					t.Fatalf("Range(%q, %q): %v, %d, want %q", from, to, got, err, want)
				}
			}
		}
	})
}

// P8.2: Count, and Nth of each place, at both edges, and far off.
func TestCountAndNth(t *testing.T) {
	trees(t, func(p tree.Pages, root api.Ref, names []string) {
		if n, err := Count(p, root); err != api.OK || n != len(names) {
			t.Fatalf("Count: %d, %d, want %d", n, err, len(names))
		}
		for i, name := range names {
			if e, there, err := Nth(p, root, i); err != api.OK || !there || !sameSecret(e, secret(name)) {
				t.Fatalf("Nth(%d): %v, %v, %d, want %q", i, e, there, err, name)
			}
		}
		for _, n := range []int{-1, -2, -len(names), -len(names) - 1, math.MinInt, math.MinInt + 1, len(names), len(names) + 1, 2 * len(names), 1 << 32, 1<<32 + 1, math.MaxInt - 1, math.MaxInt} {
			if e, there, err := Nth(p, root, n); err != api.OK || there || !sameSecret(e, api.Entry{}) {
				t.Fatalf("Nth(%d) of %d: %v, %v, %d", n, len(names), e, there, err)
			}
		}
	})
}

// P8.2: Floor of each name, and of what stands before, between and behind them.
func TestFloor(t *testing.T) {
	trees(t, func(p tree.Pages, root api.Ref, names []string) {
		for _, x := range asks() {
			l := chosen(names, func(name string) bool { return strings.Compare(name, x) <= 0 })
			want := api.Entry{}
			if len(l) > 0 {
				want = secret(l[len(l)-1])
			}
			if e, there, err := Floor(p, root, x); err != api.OK || there != (len(l) > 0) || !sameSecret(e, want) {
				t.Fatalf("Floor(%q): %v, %v, %d, want %v", x, e, there, err, want)
			}
		}
	})
}

// P8.1, P8.2: the empty name is one like others, and the least.
func TestTheEmptyName(t *testing.T) {
	h := tree.NewHeap()
	root := made(t, h, append(counted(9), "")...)
	names := append([]string{""}, counted(9)...)
	namesAre(t, h, root, names, "")
	namesAre(t, h, root, counted(9), "a")
	if l, err := Range(h, root, "", "a"); err != api.OK || !sameSecrets(l, secretsOf("")) {
		t.Errorf("Range: %v, %d", l, err)
	}
	for _, x := range []string{"", "\x00", "a"} {
		if e, there, err := Floor(h, root, x); err != api.OK || !there || !sameSecret(e, secret("")) {
			t.Errorf("Floor(%q): %v, %v, %d", x, e, there, err)
		}
	}
	if e, there, err := Nth(h, root, 0); err != api.OK || !there || !sameSecret(e, secret("")) {
		t.Errorf("Nth: %v, %v, %d", e, there, err)
	}
}

// P8.1, P8.2: secrets come as they are, without versions too.
func TestSecretsOfAnyKind(t *testing.T) {
	h := tree.NewHeap()
	l := []api.Entry{{Name: "a"}, {Name: "b", Versions: []api.Version{{No: -1, Value: strings.Repeat("v", 5000)}}}, {Name: "c", Versions: []api.Version{}}, {Name: "d", Versions: []api.Version{{}, {}, {No: math.MaxInt, Note: "\x00"}}}}
	root, err := h.Write(api.Node{Leaf: true, Entries: l})
	if err != api.OK {
		t.Fatal(err)
	}
	if got, err := Range(h, root, "", ""); err != api.OK || !sameSecrets(got, l) {
		t.Errorf("Range: %v, %d", got, err)
	}
	for i, e := range l {
		if got, there, err := Nth(h, root, i); err != api.OK || !there || !sameSecret(got, e) {
			t.Errorf("Nth(%d): %v, %v, %d", i, got, there, err)
		}
		if got, there, err := Floor(h, root, e.Name); err != api.OK || !there || !sameSecret(got, e) {
			t.Errorf("Floor(%s): %v, %v, %d", e.Name, got, there, err)
		}
	}
}

// The chapter's words: a tree's secrets are those of its leaves, not what else nodes hold.
func TestSecretsAreThoseOfLeaves(t *testing.T) {
	s := newShelf()
	stray := leaf("b", "d")
	stray.Kids = []api.Kid{kid("x", s.lay(leaf("x", "y"), 1))}
	n := inner(kid("b", s.lay(stray, 1)), kid("f", s.lay(leaf("f", "h"), 1)))
	n.Entries = secretsOf("a", "e", "g", "i")
	root := s.lay(n, 1)
	namesAre(t, s, root, []string{"b", "d", "f", "h"})
	if n, err := Count(s, root); err != api.OK || n != 4 {
		t.Errorf("Count: %d, %d", n, err)
	}
	if _, there, err := Floor(s, root, "a"); err != api.OK || there {
		t.Errorf("Floor: %v, %d", there, err)
	}
}

// until is the least text that is greater than all that begin with a prefix; empty, if there is none.
func until(prefix string) string {
	b := []byte(prefix)
	for len(b) > 0 && b[len(b)-1] == 0xff {
		b = b[:len(b)-1]
	}
	if len(b) > 0 {
		b[len(b)-1]++
	}
	return string(b)
}

// P8.5: Names of a prefix are those of a Range, Nth of each place is what Names tells there.
func TestCallsAgree(t *testing.T) {
	trees(t, func(p tree.Pages, root api.Ref, _ []string) {
		for _, prefix := range asks() {
			l, err := Range(p, root, prefix, until(prefix))
			if err != api.OK {
				t.Fatalf("Range: %d", err)
			}
			var names []string
			for _, e := range l {
				names = append(names, e.Name)
			}
			namesAre(t, p, root, names, prefix)
		}
		names, err := Names(p, root)
		if n, errOf := Count(p, root); err != api.OK || errOf != api.OK || n != len(names) {
			t.Fatalf("Count: %d of %q, %d, %d", n, names, err, errOf)
		}
		for n := -1; n <= len(names); n++ {
			e, there, err := Nth(p, root, n)
			if is := n >= 0 && n < len(names); err != api.OK || there != is || is && e.Name != names[n] {
				t.Fatalf("Nth(%d): %v, %v, %d of %q", n, e, there, err, names)
			}
		}
	})
}
