package book

import (
	"slices"
	"strings"
	"testing"

	"lethe/api"
	"lethe/entry"
)

// q is that of the chapter's examples; least and greatest are the quotas that are so in each part.
var (
	q        = api.Quota{Secrets: 2, Name: 3, Value: 2, Note: 1, Versions: 2, Batch: 3}
	least    = api.Quota{Secrets: 1, Name: 1, Versions: 1, Batch: 1}
	greatest = api.Quota{Secrets: 64, Name: 16, Value: 32, Note: 16, Versions: 4, Batch: 8, Cache: 32}
)

func put(name, value string) api.Op { return api.Op{Kind: api.OpPut, Name: name, Value: value} }

func over(name, value string) api.Op { return api.Op{Kind: api.OpOver, Name: name, Value: value} }

func del(name string) api.Op { return api.Op{Kind: api.OpDelete, Name: name} }

// noted is a call with a note.
func noted(o api.Op, note string) api.Op {
	o.Note = note
	return o
}

func long(n int) string { return strings.Repeat("x", n) }

// secret is one of versions without notes, numbered from a number on.
func secret(name string, from int, values ...string) api.Entry {
	e := api.Entry{Name: name}
	for i, v := range values {
		e.Versions = append(e.Versions, api.Version{No: from + i, Value: v})
	}
	return e
}

func same(a, b api.Entry) bool { return a.Name == b.Name && slices.Equal(a.Versions, b.Versions) }

func sameAll(a, b []api.Entry) bool { return slices.EqualFunc(a, b, same) }

// made is a book in which calls were played one by one.
func made(t *testing.T, q api.Quota, ops ...api.Op) *Book {
	t.Helper()
	b, err := New(q)
	if err != api.OK {
		t.Fatalf("New: %d", err)
	}
	for _, o := range ops {
		played(t, b, o)
	}
	return b
}

// played plays a batch that may be.
func played(t *testing.T, b *Book, ops ...api.Op) {
	t.Helper()
	if err, at := b.Judge(ops...); err != api.OK || at != 0 {
		t.Fatalf("Judge of %v: %d at %d", ops, err, at)
	}
	if err, at := b.Play(ops...); err != api.OK || at != 0 {
		t.Fatalf("Play of %v: %d at %d", ops, err, at)
	}
}

// refused looks whether Judge and Play refuse a batch, and whether nothing has changed by it.
func refused(t *testing.T, b *Book, want api.Errno, place int, ops ...api.Op) {
	t.Helper()
	all, gone := b.All(), b.Gone()
	if err, at := b.Judge(ops...); err != want || at != place {
		t.Errorf("Judge of %v: %d at %d, want %d at %d", ops, err, at, want, place)
	}
	if err, at := b.Play(ops...); err != want || at != place {
		t.Errorf("Play of %v: %d at %d, want %d at %d", ops, err, at, want, place)
	}
	holds(t, b, gone, all...)
}

// holds looks whether a book has just these secrets, and tells these values as gone.
func holds(t *testing.T, b *Book, gone []string, all ...api.Entry) {
	t.Helper()
	if l := b.All(); !sameAll(l, all) {
		t.Errorf("All: %v, want %v", l, all)
	}
	var names []string
	for _, e := range all {
		names = append(names, e.Name)
		if got, is := b.Get(e.Name); !is || !same(got, e) {
			t.Errorf("Get of %q: %v, %v, want %v", e.Name, got, is, e)
		}
	}
	if l := b.Names(); !slices.Equal(l, names) {
		t.Errorf("Names: %q, want %q", l, names)
	}
	if l := b.Gone(); !slices.Equal(l, gone) {
		t.Errorf("Gone: %q, want %q", l, gone)
	}
}

// ledger is what a book must be, in another way: secrets in a list in order, and all values that were put.
type ledger struct {
	q   api.Quota
	l   []api.Entry
	put []string
}

func (m *ledger) find(name string) (int, bool) {
	return slices.BinarySearchFunc(m.l, name, func(e api.Entry, n string) int { return strings.Compare(e.Name, n) })
}

// op plays a call by itself, or tells why it may not be.
func (m *ledger) op(o api.Op) api.Errno {
	i, is := m.find(o.Name)
	tooBig := len(o.Name) > m.q.Name
	if o.Kind == api.OpPut || o.Kind == api.OpOver {
		tooBig = tooBig || len(o.Value) > m.q.Value || len(o.Note) > m.q.Note
	} else if o.Kind != api.OpDelete {
		return api.ErrOp
	}
	switch {
	case o.Name == "":
		return api.ErrName
	case tooBig:
		return api.ErrTooBig
	case o.Kind == api.OpDelete && !is:
		return api.ErrNone
	case o.Kind == api.OpDelete:
		m.l = slices.Delete(slices.Clone(m.l), i, i+1)
		return api.OK
	case !is && len(m.l) == m.q.Secrets:
		return api.ErrFull
	}
	m.l = slices.Clone(m.l)
	if !is {
		m.l = slices.Insert(m.l, i, api.Entry{Name: o.Name})
	}
	m.l[i].Versions = m.versions(m.l[i].Versions, o)
	m.put = append(slices.Clip(m.put), o.Value)
	return api.OK
}

func (m *ledger) versions(l []api.Version, o api.Op) []api.Version {
	no := 1
	if len(l) > 0 {
		no = l[len(l)-1].No + 1
	}
	if o.Kind == api.OpOver {
		l = nil
	}
	l = append(slices.Clip(l), api.Version{No: no, Value: o.Value, Note: o.Note})
	return l[max(0, len(l)-m.q.Versions):]
}

// batch plays calls, all or none.
func (m *ledger) batch(ops []api.Op) (api.Errno, int) {
	if len(ops) < 1 || len(ops) > m.q.Batch {
		return api.ErrBatch, -1
	}
	before := *m
	for i, o := range ops {
		if err := m.op(o); err != api.OK {
			*m = before
			return err, i
		}
	}
	return api.OK, 0
}

// gone goes through all texts one by one.
func (m *ledger) gone() []string {
	var l []string
	texts := entry.Texts(m.l...)
	for _, v := range m.put {
		if !slices.Contains(texts, v) && !slices.Contains(l, v) {
			l = append(l, v)
		}
	}
	slices.Sort(l)
	return l
}
