package tree

import (
	"slices"

	"lethe/api"
)

// mover lays down anew what lies in some segments, and what leads there.
type mover struct {
	climber
	// left is what was not come to yet, each page ahead of those below its kids.
	left []api.Seen
	// segs rise: there may be many.
	segs []int
	laid int
}

// next moves the tree below the next page: the kid that it is now, and whether that is a new one.
func (m *mover) next() (api.Kid, bool, api.Errno) {
	s := m.left[0]
	m.left = m.left[1:]
	n := s.Node
	_, anew := slices.BinarySearch(m.segs, s.Ref.Seg)
	for i := range below(n) {
		k, moved, err := m.next()
		if err != api.OK {
			return api.Kid{}, false, err
		}
		if moved {
			n.Kids[i], anew = k, true
		}
	}
	if !anew {
		return api.Kid{Ref: s.Ref}, false, api.OK
	}
	k, err := m.kid(n)
	if err != api.OK {
		return api.Kid{}, false, err
	}
	m.laid++
	return k, true, api.OK
}
