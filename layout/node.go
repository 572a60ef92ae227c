package layout

import (
	"slices"

	"mullion/api"
)

// axis is the way in which kids stand, and with it the side of a size that is along this way.
type axis int

const (
	columns axis = iota // kids stand beside one another
	rows                // below one another
)

func axisOf(beside bool) axis {
	if beside {
		return columns
	}
	return rows
}

func (a axis) other() axis { return 1 - a }

// pair is a size, or a place: columns, rows.
type pair [2]int

// with is the same but for one side.
func (p pair) with(a axis, n int) pair {
	p[a] = n
	return p
}

// node is a leaf, if it has no kids, else a split. Only leaves keep a size: that of a split follows from its kids'.
type node struct {
	pane  int
	size  pair
	along axis
	kids  []*node
}

func leaf(pane int, size pair) *node { return &node{pane: pane, size: size} }

// split is one of those kids. A kid that would go the same way gives its own kids instead, and of a single kid it is that one, so that any parent can be made anew of its kids.
func split(along axis, kids ...*node) *node {
	s := &node{along: along}
	for _, kid := range kids {
		if kid.goes(along) {
			s.kids = append(s.kids, kid.kids...)
		} else {
			s.kids = append(s.kids, kid)
		}
	}
	if len(s.kids) == 1 {
		return s.kids[0]
	}
	return s
}

func (n *node) isLeaf() bool { return len(n.kids) == 0 }

// goes tells whether it is a split that goes this way.
func (n *node) goes(a axis) bool { return !n.isLeaf() && n.along == a }

// each goes over the kids.
func (n *node) each(visit func(kid *node)) {
	for _, kid := range n.kids {
		visit(kid)
	}
}

// eachBack goes over the kids from the last one on.
func (n *node) eachBack(visit func(kid *node)) {
	for _, kid := range slices.Backward(n.kids) {
		visit(kid)
	}
}

// eachAt goes over the kids, with where they lie if the split lies there.
func (n *node) eachAt(at pair, visit func(kid *node, at pair)) {
	n.each(func(kid *node) {
		visit(kid, at)
		at[n.along] += kid.has(n.along) + 1
	})
}

// eachLeaf goes over the leaves in it, in the tree's order.
func (n *node) eachLeaf(visit func(leaf *node)) {
	if n.isLeaf() {
		visit(n)
	}
	n.each(func(kid *node) { kid.eachLeaf(visit) })
}

// has is how many columns or rows it has, least how many it needs, spare how many it can do without.
func (n *node) has(a axis) int {
	return n.together(a, func(leaf *node) int { return leaf.size[a] })
}

func (n *node) least(a axis) int {
	return n.together(a, func(*node) int { return 1 })
}

func (n *node) spare(a axis) int { return n.has(a) - n.least(a) }

// together is what leaves come to in a node.
func (n *node) together(a axis, of func(leaf *node) int) int {
	if n.isLeaf() {
		return of(n)
	}
	sum, greatest := len(n.kids)-1, 0
	n.each(func(kid *node) {
		one := kid.together(a, of)
		sum += one
		greatest = max(greatest, one)
	})
	if n.along == a {
		return sum
	}
	return greatest
}

func (n *node) grow(a axis, by int) {
	switch {
	case n.isLeaf():
		n.size[a] += by
	case n.along == a:
		n.kids[len(n.kids)-1].grow(a, by)
	default:
		n.each(func(kid *node) { kid.grow(a, by) })
	}
}

// shrink is never told more than what it can do without.
func (n *node) shrink(a axis, by int) {
	switch {
	case n.isLeaf():
		n.size[a] -= by
	case n.along == a:
		n.eachBack(func(kid *node) {
			part := min(by, kid.spare(a))
			kid.shrink(a, part)
			by -= part
		})
	default:
		n.each(func(kid *node) { kid.shrink(a, by) })
	}
}

// fit lets it have so many columns or rows.
func (n *node) fit(a axis, to int) {
	if had := n.has(a); to < had {
		n.shrink(a, had-to)
	} else {
		n.grow(a, to-had)
	}
}

// up is a pane's leaf, the parent of that, and so on up to this node; none, if the pane is not in it.
func (n *node) up(pane int) []*node {
	if n.isLeaf() && n.pane == pane {
		return []*node{n}
	}
	var out []*node
	n.each(func(kid *node) {
		if path := kid.up(pane); path != nil {
			out = append(path, n)
		}
	})
	return out
}

func (n *node) panes() []int {
	var out []int
	n.eachLeaf(func(leaf *node) { out = append(out, leaf.pane) })
	return out
}

// boxes is where its leaves lie, if it lies there.
func (n *node) boxes(at pair) []api.Box {
	if n.isLeaf() {
		return []api.Box{{Id: n.pane, X: at[columns], Y: at[rows], W: n.size[columns], H: n.size[rows]}}
	}
	var out []api.Box
	n.eachAt(at, func(kid *node, at pair) { out = append(out, kid.boxes(at)...) })
	return out
}

func (n *node) clone() *node {
	own := *n
	own.kids = nil
	n.each(func(kid *node) { own.kids = append(own.kids, kid.clone()) })
	return &own
}
