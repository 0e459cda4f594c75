package tree

import (
	"slices"

	"lethe/api"
	"lethe/node"
)

// climber goes down a tree, and lays down what comes of it, from the leaf up.
type climber struct {
	Pages
}

// step is an inner node on the way down to a leaf.
type step struct {
	node api.Node
	// at is the place of the kid that the way goes on by.
	at int
	// ahead and behind are the neighbours that this kid is put together with: one of them, or none.
	ahead, behind []api.Node
}

// page reads one that stands so deep. It is new memory: pages may hand out what they keep.
func (c climber) page(r api.Ref, deep int) (n api.Node, err api.Errno) {
	if deep > api.MaxLevel {
		return api.Node{}, api.ErrTree
	}
	// Of pages that panic, as those that are nil do, none can be read.
	defer func() {
		if recover() != nil {
			n, err = api.Node{}, api.ErrPage
		}
	}()
	n, err = c.Read(r)
	switch {
	case err != api.OK:
		return api.Node{}, err
	case !n.Leaf && len(n.Kids) == 0:
		return api.Node{}, api.ErrTree
	}
	return copied(n), api.OK
}

// all is what lies below a page that stands so deep, and that page ahead of it.
func (c climber) all(r api.Ref, deep int) ([]api.Seen, api.Errno) {
	n, err := c.page(r, deep)
	if err != api.OK {
		return nil, err
	}
	seen := []api.Seen{{Deep: deep, Ref: r, Node: n}}
	for _, k := range below(n) {
		l, err := c.all(k.Ref, deep+1)
		if err != api.OK {
			return nil, err
		}
		seen = append(seen, l...)
	}
	return seen, api.OK
}

// down is the way to the leaf where a name belongs, and that leaf.
func (c climber) down(root api.Ref, name string) ([]step, api.Node, api.Errno) {
	var way []step
	n, err := c.page(root, 1)
	for err == api.OK && !n.Leaf {
		at := belongs(n.Kids, name)
		way = append(way, step{node: n, at: at})
		n, err = c.page(n.Kids[at].Ref, len(way)+1)
	}
	if err != api.OK {
		return nil, api.Node{}, err
	}
	return way, n, api.OK
}

// belongs is the place of the kid below which a name belongs.
func belongs(kids []api.Kid, name string) int {
	for i, k := range slices.Backward(kids) {
		if k.Low <= name {
			return i
		}
	}
	return 0
}

// neighbours reads those that what is left of nodes with too few parts is put together with. It stands ahead of all Writes: nothing is laid down if one of them can't be read.
func (c climber) neighbours(way []step, child api.Node) api.Errno {
	for i := range slices.Backward(way) {
		s := &way[i]
		if parts(child) < api.MinFan && len(s.node.Kids) > 1 {
			if err := c.beside(s, i+2, child.Leaf); err != api.OK {
				return err
			}
		}
		// How many kids there are tells what comes next; which ones is not known yet.
		child = s.over(make([]api.Kid, len(join(*s, child))))
	}
	return api.OK
}

// beside takes the right neighbour to the kid that the way goes on by, or, if it is the last one, the left one.
func (c climber) beside(s *step, deep int, leaf bool) api.Errno {
	right := s.at+1 < len(s.node.Kids)
	place := s.at - 1
	if right {
		place = s.at + 1
	}
	n, err := c.page(s.node.Kids[place].Ref, deep)
	switch {
	case err != api.OK:
		return err
	case n.Leaf != leaf:
		// In no tree that may be: put together, the parts of one of them would be lost.
	case right:
		s.behind = []api.Node{n}
	default:
		s.ahead = []api.Node{n}
	}
	return api.OK
}

// over is the step's node with these in the place of the kid that the way goes on by, and of the neighbours that it was put together with.
func (s step) over(kids []api.Kid) api.Node {
	n := s.node
	first, rest := s.at-len(s.ahead), s.at+1+len(s.behind)
	n.Kids = slices.Concat(n.Kids[:first], kids, n.Kids[rest:])
	return n
}

// up lays down what is made of a leaf, and what is made of each node above it but the root: the node that comes of that.
func (c climber) up(way []step, n api.Node, made func(s step, child api.Node) []api.Node) (api.Node, api.Errno) {
	for _, s := range slices.Backward(way) {
		kids, err := c.lay(made(s, n)...)
		if err != api.OK {
			return api.Node{}, err
		}
		n = s.over(kids)
	}
	return n, api.OK
}

// rooted lays down what came of a root, and a new one above it if that is several: the reference of the root.
func (c climber) rooted(nodes ...api.Node) (api.Ref, api.Errno) {
	kids, err := c.lay(nodes...)
	if err != api.OK {
		return api.Ref{}, err
	}
	if len(kids) > 1 {
		return c.rooted(api.Node{Kids: kids})
	}
	return kids[0].Ref, api.OK
}

// lay lays nodes down, the left one first: the kids that they are to their parent.
func (c climber) lay(nodes ...api.Node) ([]api.Kid, api.Errno) {
	var kids []api.Kid
	for _, n := range nodes {
		k, err := c.kid(n)
		if err != api.OK {
			return nil, err
		}
		kids = append(kids, k)
	}
	return kids, api.OK
}

// kid lays one down.
func (c climber) kid(n api.Node) (k api.Kid, err api.Errno) {
	// Pages that panic refuse it.
	defer func() {
		if recover() != nil {
			k, err = api.Kid{}, api.ErrPage
		}
	}()
	low := node.Low(n)
	r, err := c.Write(n)
	if err != api.OK {
		return api.Kid{}, err
	}
	return api.Kid{Low: low, Ref: r}, api.OK
}
