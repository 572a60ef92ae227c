package layout

import (
	"strconv"
	"strings"

	"mullion/api"
)

const (
	maxText   = 4096
	maxDigits = 9
	sumDigits = 4
	digits    = "0123456789"
)

// Print writes it, with its sum; Apply lays the panes as such a text says; Sum is a text's sum.
func (t *Tree) Print() string {
	body := t.root.body(pair{})
	return sumText(body) + "," + body
}

func (t *Tree) Apply(s string) api.Errno {
	if len(s) > maxText {
		return api.ErrLong
	}
	sum, body, is := strings.Cut(s, ",")
	switch {
	case !is || !isSum(sum):
		return api.ErrForm
	case sum != sumText(body):
		return api.ErrSum
	}
	root := read(body)
	if root == nil {
		return api.ErrForm
	}
	panes := t.root.panes()
	if len(root.panes()) != len(panes) {
		return api.ErrMany
	}
	root.eachLeaf(func(leaf *node) {
		leaf.pane = panes[0]
		panes = panes[1:]
	})
	t.root = *root
	return api.OK
}

func Sum(s string) int {
	var sum uint16
	for i := range len(s) {
		sum = sum>>1 | sum<<15
		sum += uint16(s[i])
	}
	return int(sum)
}

func sumText(body string) string {
	padded := "000" + strconv.FormatInt(int64(Sum(body)), 16)
	return padded[len(padded)-sumDigits:]
}

func isSum(s string) bool {
	return len(s) == sumDigits && strings.Trim(s, digits+"abcdef") == ""
}

// body is its text, if it lies there.
func (n *node) body(at pair) string {
	head := strconv.Itoa(n.has(columns)) + "x" + strconv.Itoa(n.has(rows)) + "," + strconv.Itoa(at[columns]) + "," + strconv.Itoa(at[rows])
	if n.isLeaf() {
		return head + "," + strconv.Itoa(n.pane)
	}
	var bodies []string
	n.eachAt(at, func(kid *node, at pair) { bodies = append(bodies, kid.body(at)) })
	all := strings.Join(bodies, ",")
	if n.along == columns {
		return head + "{" + all + "}"
	}
	return head + "[" + all + "]"
}

// reader takes a body apart, from its front; wrong: what had to come there did not.
type reader struct {
	rest  string
	wrong bool
}

// read is the tree of a body; none, if it is no tree's.
func read(body string) *node {
	r := reader{rest: body}
	root := r.node()
	// The reader passes over much that the leaves tell anyway: a body that says there what is not so isn't the one that its tree has.
	if r.wrong || !root.isRight() || root.body(pair{}) != body {
		return nil
	}
	return root
}

// isRight tells whether each node has a size that may be, and kids as long across as their parent.
func (n *node) isRight() bool {
	right := isSize(n.has(columns), n.has(rows))
	across := n.along.other()
	whole := n.has(across)
	n.each(func(kid *node) { right = right && kid.has(across) == whole && kid.isRight() })
	return right
}

func (r *reader) node() *node {
	var size pair
	size[columns] = r.number()
	r.need("x")
	size[rows] = r.number()
	for range 2 { // the place
		r.need(",")
		r.number()
	}
	switch {
	case r.take("{"):
		return r.split(columns, "}")
	case r.take("["):
		return r.split(rows, "]")
	}
	r.need(",")
	return leaf(r.number(), size)
}

func (r *reader) split(along axis, end string) *node {
	kids := []*node{r.node()}
	for !r.wrong && !r.take(end) {
		r.need(",")
		kids = append(kids, r.node())
	}
	return split(along, kids...)
}

func (r *reader) number() int {
	rest := strings.TrimLeft(r.rest, digits)
	text := r.rest[:len(r.rest)-len(rest)]
	r.rest = rest
	n, err := strconv.Atoi(text)
	r.wrong = r.wrong || err != nil || len(text) > maxDigits
	return n
}

// take takes a text, if it comes now.
func (r *reader) take(text string) bool {
	rest, is := strings.CutPrefix(r.rest, text)
	r.rest = rest
	return is
}

func (r *reader) need(text string) { r.wrong = !r.take(text) || r.wrong }
