package thief

import (
	"fmt"
	"slices"
	"strings"
	"testing"

	"lethe/api"
	"lethe/term"
)

// bytesOf makes bytes of numbers, as the chapters' tables write them.
func bytesOf(l ...byte) string { return string(l) }

func boxOf(key uint64, x api.Term) api.Term {
	return api.Term{Kind: api.Box, Num: key, List: []api.Term{x}}
}

// within puts a term into n rows.
func within(n int, x api.Term) api.Term {
	for range n {
		x = term.Of(x)
	}
	return x
}

func long(n int) string { return strings.Repeat("x", n) }

// piece is a term's bytes. What no term could be is a fault of the test.
func piece(x api.Term) string {
	s, err := term.Encode(x)
	if err != api.OK {
		panic(err)
	}
	return s
}

func pieces(l ...api.Term) []string {
	var all []string
	for _, x := range l {
		all = append(all, piece(x))
	}
	return all
}

// got is all that a thief is told.
type got struct {
	keys  []uint64
	atoms []string
	shut  int
}

// String is short, as some pieces are very many.
func (g got) String() string {
	return fmt.Sprintf("%.200s and %.200s, %d shut", fmt.Sprint(g.keys), fmt.Sprintf("%.40q", g.atoms), g.shut)
}

func same(a, b got) bool {
	return slices.Equal(a.keys, b.keys) && slices.Equal(a.atoms, b.atoms) && a.shut == b.shut
}

func all(pieces ...string) got {
	return got{Keys(pieces...), Atoms(pieces...), Shut(pieces...)}
}

func short(pieces []string) string {
	return fmt.Sprintf("%.200s", fmt.Sprintf("%.40q", pieces))
}

// gets looks whether just this is told of pieces, by Has too.
func gets(t *testing.T, want got, pieces ...string) {
	t.Helper()
	if g := all(pieces...); !same(g, want) {
		t.Errorf("%s: %v, want %v", short(pieces), g, want)
	}
	for _, atom := range want.atoms {
		if !Has(atom, pieces...) {
			t.Errorf("%s: Has doesn't know %.40q", short(pieces), atom)
		}
	}
	for _, atom := range append([]string{"", "no such one", "\x00"}, pieces...) {
		if Has(atom, pieces...) != slices.Contains(want.atoms, atom) {
			t.Errorf("%s: Has of %.40q: %v", short(pieces), atom, Has(atom, pieces...))
		}
	}
}

// plainly goes through all pieces with the keys that are known, until no key comes any more: what must be told, in another way.
func plainly(pieces ...string) got {
	var known []uint64
	for {
		var g got
		for _, s := range pieces {
			x, err := term.Decode(s)
			if err != api.OK {
				x = api.Term{Kind: api.Atom, Bytes: s}
			}
			g.walk(x, known)
		}
		slices.Sort(g.keys)
		g.keys = slices.Compact(g.keys)
		slices.Sort(g.atoms)
		g.atoms = slices.Compact(g.atoms)
		if slices.Equal(g.keys, known) {
			return g
		}
		known = g.keys
	}
}

func (g *got) walk(x api.Term, known []uint64) {
	switch {
	case x.Kind == api.Key:
		g.keys = append(g.keys, x.Num)
	case x.Kind == api.Atom:
		g.atoms = append(g.atoms, x.Bytes)
	case x.Kind == api.Box && !slices.Contains(known, x.Num):
		g.shut++
		return
	}
	for _, part := range x.List {
		g.walk(part, known)
	}
}

// rolls are numbers that look as if they were drawn, the same ones each time.
type rolls struct{ now uint64 }

func (r *rolls) below(n int) int {
	r.now = r.now*6364136223846793005 + 1442695040888963407
	return int(r.now >> 33 % uint64(n))
}

// term is a small one, most often a box or a row.
func (r *rolls) term(deep int) api.Term {
	key := uint64(r.below(9))
	switch kind := r.below(9); {
	case kind == 0:
		return term.Num(key)
	case kind < 3 || deep == 5:
		return term.Key(key)
	case kind == 3:
		return term.Atom([]string{"", "a", "b", "c", "ab", "\xff"}[r.below(6)])
	case kind < 7:
		return boxOf(key, r.term(deep+1))
	}
	var l []api.Term
	for range r.below(4) {
		l = append(l, r.term(deep+1))
	}
	return term.Of(l...)
}

// pieces are some, now and then bytes that are no term's.
func (r *rolls) pieces() []string {
	var l []string
	for range r.below(9) {
		s := piece(r.term(0))
		if r.below(9) == 0 {
			s = s[:r.below(len(s))]
		}
		l = append(l, s)
	}
	return l
}
