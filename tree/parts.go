package tree

import (
	"slices"
	"strings"

	"lethe/api"
)

// maxOne is how many parts of two nodes, one of which had too few, make one node at most: of more it would be full at once.
const maxOne = 3

// parts is how many a node has.
func parts(n api.Node) int {
	if n.Leaf {
		return len(n.Entries)
	}
	return len(n.Kids)
}

// below are the kids that a node leads to: a leaf none, whatever stands beside its secrets.
func below(n api.Node) []api.Kid {
	if n.Leaf {
		return nil
	}
	return n.Kids
}

// place is where the secret of a name stands, or would stand; and whether it is there.
func place(l []api.Entry, name string) (int, bool) {
	return slices.BinarySearchFunc(l, name, func(e api.Entry, name string) int {
		return strings.Compare(e.Name, name)
	})
}

// with is the secrets and one of its own memory, in the place of the one of its name or among the others.
func with(l []api.Entry, e api.Entry) []api.Entry {
	at, there := place(l, e.Name)
	if there {
		return slices.Replace(l, at, at+1, copiedEntry(e))
	}
	return slices.Insert(l, at, copiedEntry(e))
}

// split is a node, or two if it has too many parts.
func split(n api.Node) []api.Node {
	if parts(n) <= api.MaxFan {
		return []api.Node{n}
	}
	return halves(n)
}

// join is what a child and the neighbours that it is put together with make.
func join(s step, child api.Node) []api.Node {
	nodes := slices.Concat(s.ahead, []api.Node{child}, s.behind)
	if len(nodes) == 1 {
		return nodes
	}
	one := api.Node{Leaf: child.Leaf}
	for _, n := range nodes {
		one.Entries = append(one.Entries, n.Entries...)
		one.Kids = append(one.Kids, n.Kids...)
	}
	if parts(one) <= maxOne {
		return []api.Node{one}
	}
	return halves(one)
}

// halves are two nodes of a node's parts: of five the first three, and the others.
func halves(n api.Node) []api.Node {
	half := (parts(n) + 1) / 2
	if n.Leaf {
		left, right := cut(n.Entries, half)
		return []api.Node{{Leaf: true, Entries: left}, {Leaf: true, Entries: right}}
	}
	left, right := cut(n.Kids, half)
	return []api.Node{{Kids: left}, {Kids: right}}
}

// cut makes two lists of one; they share no memory, the spare room of the first one neither.
func cut[T any](l []T, n int) ([]T, []T) {
	return slices.Clone(l[:n]), slices.Clone(l[n:])
}
