package session

import (
	"slices"

	"mullion/api"
	"mullion/layout"
)

// allAlerts is all the bits that an alert may have.
const allAlerts = 3

type windows struct{ table[window] }

type window struct {
	id     int
	name   string
	tree   *layout.Tree
	choice // of a pane
	zoomed bool
	alert  int
}

func (w *window) told() Window {
	out := Window{Id: w.id, Name: w.name, Layout: w.tree.Print(), Panes: w.panes(), Active: w.chosen, Last: slices.Clone(w.last), Zoomed: w.zoomed, Alert: w.alert}
	out.W, out.H = w.tree.Size()
	return out
}

// panes is the ids of its panes, in the tree's order.
func (w *window) panes() []int {
	var out []int
	for _, b := range w.tree.Boxes() {
		out = append(out, b.Id)
	}
	return out
}

// Windows is all of them, by rising ids; Window is one.
func (t *windows) Windows() []Window { return toldAll(t.all(), (*window).told) }

func (t *windows) Window(id int) (Window, bool) { return toldOne(t.get(id), (*window).told) }

// newWindow makes one of that size, with a pane alone, without a link.
func (m *Machine) newWindow(title string, w, h int, p *pane) *window {
	tree, _ := layout.New(w, h, p.id) // never refused: a window has that size already, or isSize was asked
	p.in = &window{id: m.windows.next(), name: title, tree: tree, choice: choice{chosen: p.id}}
	m.windows.add(p.in)
	return p.in
}

// endWindow takes a window without links away, and the panes that are still in it.
func (m *Machine) endWindow(w *window) {
	m.windows.drop(w.id)
	for _, id := range w.panes() {
		if m.panes.get(id).in == w {
			m.panes.drop(id)
		}
	}
}

// shut lets all links of a window go, and with the last one the window.
func (m *Machine) shut(w *window) {
	for _, s := range m.linkedIn(w) {
		m.unlink(s, s.indexOf(w))
	}
}

// Open opens a window in a session: at an index (-1: the first free one); Shut ends it everywhere; Title names it.
func (m *Machine) Open(session, index int, name string, sel bool) (int, int, api.Errno) {
	s := m.sessions.get(session)
	if s == nil {
		return 0, 0, api.ErrNone
	}
	index, errno := m.mayOpen(s, index, name)
	if errno != api.OK {
		return 0, 0, errno
	}
	p := m.newPane()
	w, h := s.current().tree.Size()
	win := m.newWindow(name, w, h, p)
	s.links[index] = win
	if sel {
		s.choose(index)
	}
	m.settle()
	return win.id, p.id, api.OK
}

// mayOpen is the index at which a new window may be linked, or why it may not.
func (m *Machine) mayOpen(s *session, index int, title string) (int, api.Errno) {
	switch {
	case !isPlace(index):
		return 0, api.ErrArg
	case !isTitle(title):
		return 0, api.ErrName
	case m.windows.count() >= api.MaxWindows || len(s.links) >= api.MaxLinks:
		return 0, api.ErrMany
	}
	index, free := s.place(index)
	if !free {
		return 0, api.ErrTwice
	}
	return index, api.OK
}

func (m *Machine) Shut(window int) api.Errno {
	w := m.windows.get(window)
	if w == nil {
		return api.ErrNone
	}
	m.shut(w)
	m.settle()
	return api.OK
}

func (t *windows) Title(window int, name string) api.Errno {
	w := t.get(window)
	switch {
	case w == nil:
		return api.ErrNone
	case !isTitle(name):
		return api.ErrName
	}
	w.name = name
	return api.OK
}

// Lay lays a window's panes by a preset's name, or a layout; Rotate rotates them; Size makes a window another size.
func (m *Machine) Lay(window int, layout string) api.Errno {
	w := m.windows.get(window)
	if w == nil {
		return api.ErrNone
	}
	tree := w.tree.Clone()
	errno := tree.Preset(layout)
	if errno == api.ErrName {
		errno = apply(tree, layout)
	}
	if errno != api.OK {
		return errno
	}
	w.tree = tree
	w.zoomed = false
	m.settle()
	return api.OK
}

// apply lays a tree as a text says, in the size that it has.
func apply(tree *layout.Tree, text string) api.Errno {
	w, h := tree.Size()
	if errno := tree.Apply(text); errno != api.OK {
		return errno
	}
	return tree.Fit(w, h)
}

func (t *windows) Rotate(window int, down bool) api.Errno {
	w := t.get(window)
	if w == nil {
		return api.ErrNone
	}
	panes := w.panes()
	if down {
		slices.Reverse(panes)
	}
	for _, other := range panes[1:] {
		w.tree.Swap(panes[0], other)
	}
	w.zoomed = false
	return api.OK
}

func (m *Machine) Size(window, w, h int) api.Errno {
	win := m.windows.get(window)
	if win == nil {
		return api.ErrNone
	}
	if errno := win.tree.Fit(w, h); errno != api.OK {
		return errno
	}
	m.settle()
	return api.OK
}

// Alert raises alerts of a window (not of one that a client sees).
func (m *Machine) Alert(window, bits int) api.Errno {
	w := m.windows.get(window)
	switch {
	case w == nil:
		return api.ErrNone
	case bits < 0 || bits > allAlerts:
		return api.ErrArg
	case !m.isSeen(w):
		w.alert |= bits
	}
	return api.OK
}
