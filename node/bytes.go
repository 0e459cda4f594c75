package node

import (
	"lethe/api"
	"lethe/box"
	"lethe/quota"
	"lethe/term"
)

// The kinds of nodes: the number that a node's term begins with.
const (
	leaf uint64 = iota + 1
	inner
)

// maxNum holds whatever machine the bytes are read on: no greater number is made an int.
const maxNum = 1<<31 - 1

// Term is a node as a term; From the node of one.
func Term(q api.Quota, n api.Node) (api.Term, api.Errno) {
	if err := Right(q, n); err != api.OK {
		return api.Term{}, err
	}
	if n.Leaf {
		return leafTerm(n), api.OK
	}
	return innerTerm(n), api.OK
}

func leafTerm(n api.Node) api.Term {
	return row(term.Num(leaf), n.Entries, func(e api.Entry) api.Term {
		return row(term.Atom(e.Name), e.Versions, func(v api.Version) api.Term {
			return term.Of(num(v.No), term.Atom(v.Value), term.Atom(v.Note))
		})
	})
}

func innerTerm(n api.Node) api.Term {
	return row(term.Num(inner), n.Kids, func(k api.Kid) api.Term {
		r := k.Ref
		return term.Of(term.Atom(k.Low), term.Key(r.Key), num(r.Seg), num(r.Off), num(r.Len))
	})
}

// row is the row of a first term, and of what is made of each part.
func row[T any](first api.Term, l []T, made func(part T) api.Term) api.Term {
	terms := []api.Term{first}
	for _, part := range l {
		terms = append(terms, made(part))
	}
	return term.Of(terms...)
}

func num(n int) api.Term { return term.Num(uint64(n)) }

func From(q api.Quota, t api.Term) (api.Node, api.Errno) {
	if err := quota.Right(q); err != api.OK {
		return api.Node{}, err
	}
	if err := term.Right(t); err != api.OK {
		return api.Node{}, err
	}
	n, is := nodeOf(t)
	if !is {
		return api.Node{}, api.ErrNode
	}
	if err := Right(q, n); err != api.OK {
		return api.Node{}, err
	}
	return n, api.OK
}

// nodeOf reads a node of a term of the right form, be it right or not.
func nodeOf(t api.Term) (api.Node, bool) {
	kind, l, is := headed(t, api.Num)
	if !is {
		return api.Node{}, false
	}
	switch kind.Num {
	case leaf:
		entries, is := each(l, secretOf)
		return api.Node{Leaf: true, Entries: entries}, is
	case inner:
		kids, is := each(l, kidOf)
		return api.Node{Kids: kids}, is
	}
	return api.Node{}, false
}

// headed is what a row begins with, of that kind, and what stands behind it.
func headed(t api.Term, kind int) (api.Term, []api.Term, bool) {
	if t.Kind != api.Row || len(t.List) == 0 || t.List[0].Kind != kind {
		return api.Term{}, nil, false
	}
	return t.List[0], t.List[1:], true
}

// each reads a part of each term.
func each[T any](l []api.Term, read func(t api.Term) (T, bool)) ([]T, bool) {
	var parts []T
	for _, t := range l {
		part, is := read(t)
		if !is {
			return nil, false
		}
		parts = append(parts, part)
	}
	return parts, true
}

func secretOf(t api.Term) (api.Entry, bool) {
	name, l, is := headed(t, api.Atom)
	if !is {
		return api.Entry{}, false
	}
	versions, is := each(l, versionOf)
	return api.Entry{Name: name.Bytes, Versions: versions}, is
}

func versionOf(t api.Term) (api.Version, bool) {
	if !formed(t, api.Num, api.Atom, api.Atom) {
		return api.Version{}, false
	}
	l := t.List
	return api.Version{No: int(l[0].Num), Value: l[1].Bytes, Note: l[2].Bytes}, true
}

func kidOf(t api.Term) (api.Kid, bool) {
	if !formed(t, api.Atom, api.Key, api.Num, api.Num, api.Num) {
		return api.Kid{}, false
	}
	l := t.List
	r := api.Ref{Key: l[1].Num, Seg: int(l[2].Num), Off: int(l[3].Num), Len: int(l[4].Num)}
	return api.Kid{Low: l[0].Bytes, Ref: r}, true
}

// formed tells whether a term is the row of terms of just these kinds, whose numbers are small enough.
func formed(t api.Term, kinds ...int) bool {
	if t.Kind != api.Row || len(t.List) != len(kinds) {
		return false
	}
	for i, part := range t.List {
		if part.Kind != kinds[i] || part.Kind == api.Num && part.Num > maxNum {
			return false
		}
	}
	return true
}

// Seal is a node's sealed bytes; Open the node of such.
func Seal(q api.Quota, key uint64, n api.Node) (string, api.Errno) {
	t, err := Term(q, n)
	if err != api.OK {
		return "", err
	}
	return box.Pack(key, t)
}

func Open(q api.Quota, key uint64, s string) (api.Node, api.Errno) {
	if err := quota.Right(q); err != api.OK {
		return api.Node{}, err
	}
	t, err := box.Unpack(key, s)
	if err != api.OK {
		return api.Node{}, err
	}
	return From(q, t)
}
