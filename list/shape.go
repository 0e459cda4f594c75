package list

import (
	"lethe/api"
	"lethe/node"
	"lethe/quota"
	"lethe/tree"
)

// Shape looks a tree over: is it as it must be?
func Shape(q api.Quota, p tree.Pages, root api.Ref) (api.Shape, api.Errno) {
	if err := quota.Right(q); err != api.OK {
		return api.Shape{}, err
	}
	seen, err := tree.All(p, root)
	if err != api.OK {
		return api.Shape{}, err
	}
	for _, s := range seen {
		if err := node.Right(q, s.Node); err != api.OK {
			return api.Shape{}, err
		}
	}
	shape := shapeOf(seen)
	fits := shape.Secrets <= q.Secrets && shape.Levels <= quota.Levels(q)
	if !fits || !filled(seen, shape.Levels) || !rising(secrets(seen)) || !lows(seen) {
		return api.Shape{}, api.ErrTree
	}
	return shape, api.OK
}

func shapeOf(seen []api.Seen) api.Shape {
	shape := api.Shape{Pages: len(seen), Secrets: len(secrets(seen))}
	for _, s := range seen {
		// The deepest page is a leaf, as each inner one has kids below it.
		shape.Levels = max(shape.Levels, s.Deep)
		shape.Bytes += s.Ref.Len
	}
	return shape
}

// filled tells whether all leaves stand so deep, each but the root with secrets enough.
func filled(seen []api.Seen, deep int) bool {
	for _, s := range seen {
		if !s.Node.Leaf {
			continue
		}
		if s.Deep != deep || s.Deep > 1 && len(s.Node.Entries) < api.MinFan {
			return false
		}
	}
	return true
}

func rising(l []api.Entry) bool {
	for i := range l {
		if i > 0 && l[i].Name <= l[i-1].Name {
			return false
		}
	}
	return true
}

// lows tells whether each kid's Low is the least name below it, if all names rise.
func lows(seen []api.Seen) bool {
	for i, s := range seen {
		behind := seen[i+1:]
		for _, k := range s.Node.Kids {
			behind = from(behind, s.Deep+1)
			if k.Low != least(behind) {
				return false
			}
			behind = behind[1:]
		}
	}
	return true
}

// from is what comes from the next page that stands so deep on.
func from(seen []api.Seen, deep int) []api.Seen {
	for seen[0].Deep != deep {
		seen = seen[1:]
	}
	return seen
}

// least is the least name below the first of these pages: as names rise, that of the first leaf.
func least(seen []api.Seen) string {
	for !seen[0].Node.Leaf {
		seen = seen[1:]
	}
	return node.Low(seen[0].Node)
}
