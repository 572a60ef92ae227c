package layout

import (
	"slices"

	"mullion/api"
)

// Preset lays all panes anew: by a name.
func (t *Tree) Preset(name string) api.Errno {
	size := pair{t.root.has(columns), t.root.has(rows)}
	root := preset(name, size, t.root.panes())
	if root == nil {
		return api.ErrName
	}
	if !root.hasRoom() {
		return api.ErrSize
	}
	t.root = *root
	return api.OK
}

func preset(name string, size pair, panes []int) *node {
	switch name {
	case "even-horizontal":
		return even(columns, size, panes)
	case "even-vertical":
		return even(rows, size, panes)
	case "main-horizontal":
		return mainFirst(rows, size, panes)
	case "main-vertical":
		return mainFirst(columns, size, panes)
	case "tiled":
		return tiled(size, panes)
	}
	return nil
}

// shares is how n have so many columns or rows evenly: below 1 each, if that is too few.
func shares(of, n int) []int {
	all := of - (n - 1)
	out := make([]int, n)
	for i := range out {
		out[i] = all / n
		if i < all%n {
			out[i]++
		}
	}
	return out
}

// even lays panes evenly one behind the other.
func even(along axis, size pair, panes []int) *node {
	var kids []*node
	for i, share := range shares(size[along], len(panes)) {
		kids = append(kids, leaf(panes[i], size.with(along, share)))
	}
	return split(along, kids...)
}

// mainFirst lays the first pane ahead of the others.
func mainFirst(along axis, size pair, panes []int) *node {
	if len(panes) == 1 {
		return leaf(panes[0], size)
	}
	rest := (size[along] - 1) / 2
	first := leaf(panes[0], size.with(along, size[along]-1-rest))
	return split(along, first, even(along.other(), size.with(along, rest), panes[1:]))
}

// tiled lays panes in rows that have as many panes as there are rows, or one more.
func tiled(size pair, panes []int) *node {
	inRow := 1
	for inRow*inRow < len(panes) {
		inRow++
	}
	lines := slices.Collect(slices.Chunk(panes, inRow))
	var kids []*node
	for i, share := range shares(size[rows], len(lines)) {
		kids = append(kids, even(columns, size.with(rows, share), lines[i]))
	}
	return split(rows, kids...)
}

// hasRoom tells whether each leaf has a column and a row.
func (n *node) hasRoom() bool {
	room := true
	n.eachLeaf(func(leaf *node) { room = room && leaf.size[columns] >= 1 && leaf.size[rows] >= 1 })
	return room
}
