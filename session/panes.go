package session

import (
	"slices"

	"mullion/api"
)

type panes struct {
	table[pane]
	marked int // 0: none
}

type pane struct {
	id int
	in *window
}

func (p *pane) told() Pane { return Pane{Id: p.id, Window: p.in.id, Box: p.in.box(p.id)} }

// box is where a pane of it lies.
func (w *window) box(pane int) api.Box {
	if w.zoomed && pane == w.chosen {
		cols, rows := w.tree.Size()
		return api.Box{Id: pane, W: cols, H: rows}
	}
	boxes := w.tree.Boxes()
	return boxes[slices.IndexFunc(boxes, func(b api.Box) bool { return b.Id == pane })]
}

// Panes is all of them, by rising ids; Pane is one.
func (t *panes) Panes() []Pane { return toldAll(t.all(), (*pane).told) }

func (t *panes) Pane(id int) (Pane, bool) { return toldOne(t.get(id), (*pane).told) }

// newPane makes one that is in no window yet.
func (t *panes) newPane() *pane {
	p := &pane{id: t.next()}
	t.add(p)
	return p
}

func (t *panes) drop(id int) {
	t.table.drop(id)
	if id == t.marked {
		t.marked = 0
	}
}

// Split splits a pane, Close ends one, Active selects one, Before selects the one before, Swap swaps two, Break makes a window of one, Join moves one beside another.
func (m *Machine) Split(pane int, beside bool, size int, before bool) (int, api.Errno) {
	p := m.panes.get(pane)
	if p == nil {
		return 0, api.ErrNone
	}
	if errno := p.in.tree.Split(pane, m.panes.next(), beside, size, before); errno != api.OK {
		return 0, errno
	}
	fresh := m.newPane()
	p.in.welcome(fresh)
	m.settle()
	return fresh.id, api.OK
}

// welcome takes in a pane that has come into its tree.
func (w *window) welcome(p *pane) {
	p.in = w
	w.zoomed = false
	w.choose(p.id)
}

func (m *Machine) Close(pane int) api.Errno {
	p := m.panes.get(pane)
	if p == nil {
		return api.ErrNone
	}
	m.leave(p.in, pane)
	m.panes.drop(pane)
	m.settle()
	return api.OK
}

// leave takes a pane out of a window, which ends, if that was its only one.
func (m *Machine) leave(w *window, pane int) {
	if w.tree.Close(pane) == api.ErrState {
		m.shut(w)
		return
	}
	w.zoomed = false
	w.lose(pane, w.panes()[0])
}

func (t *panes) Active(pane int) api.Errno {
	p := t.get(pane)
	if p == nil {
		return api.ErrNone
	}
	if pane != p.in.chosen {
		p.in.zoomed = false
		p.in.choose(pane)
	}
	return api.OK
}

func (m *Machine) Before(window int) api.Errno {
	w := m.windows.get(window)
	switch {
	case w == nil:
		return api.ErrNone
	case len(w.last) == 0:
		return api.ErrState
	}
	return m.Active(w.last[0])
}

func (t *panes) Swap(a, b int) api.Errno {
	p, q := t.get(a), t.get(b)
	switch {
	case p == nil || q == nil:
		return api.ErrNone
	case a == b:
		return api.OK
	}
	v, w := p.in, q.in
	v.zoomed = false
	w.zoomed = false
	if v == w {
		return v.tree.Swap(a, b)
	}
	v.replace(a, q)
	w.replace(b, p)
	return api.OK
}

// replace lets a pane of another window stand where one of this stood.
func (w *window) replace(old int, p *pane) {
	w.tree.Rename(old, p.id)
	w.rename(old, p.id)
	p.in = w
}

func (m *Machine) Break(pane, session, index int) (int, api.Errno) {
	p, s := m.panes.get(pane), m.sessions.get(session)
	switch {
	case p == nil || s == nil:
		return 0, api.ErrNone
	case len(p.in.panes()) == 1:
		return 0, api.ErrState
	}
	index, errno := m.mayOpen(s, index, "")
	if errno != api.OK {
		return 0, errno
	}
	m.leave(p.in, pane)
	w, h := p.in.tree.Size()
	s.links[index] = m.newWindow("", w, h, p)
	m.settle()
	return p.in.id, api.OK
}

func (m *Machine) Join(pane, to int, beside bool, size int, before bool) api.Errno {
	p, target := m.panes.get(pane), m.panes.get(to)
	switch {
	case p == nil || target == nil:
		return api.ErrNone
	case p.in == target.in:
		return api.ErrArg
	}
	if errno := target.in.tree.Split(to, pane, beside, size, before); errno != api.OK {
		return errno
	}
	old := p.in
	target.in.welcome(p) // first, so that it is no pane of a window that ends
	m.leave(old, pane)
	m.settle()
	return api.OK
}

// Resize moves a pane's edge; Zoom lets it fill its window, or not.
func (t *panes) Resize(pane int, way byte, n int) api.Errno {
	p := t.get(pane)
	switch {
	case p == nil:
		return api.ErrNone
	case p.in.zoomed:
		return api.ErrState
	}
	return p.in.tree.Resize(pane, way, n)
}

func (t *panes) Zoom(pane int) api.Errno {
	p := t.get(pane)
	if p == nil {
		return api.ErrNone
	}
	w := p.in
	w.zoomed = !w.zoomed && len(w.panes()) > 1
	if w.zoomed {
		w.choose(pane)
	}
	return api.OK
}

// Mark marks a pane (0: none); Marked is it.
func (t *panes) Mark(pane int) api.Errno {
	if pane != 0 && t.get(pane) == nil {
		return api.ErrNone
	}
	t.marked = pane
	return api.OK
}

func (t *panes) Marked() int { return t.marked }
