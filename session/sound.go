package session

import "slices"

// Sound tells whether all that must hold holds.
func (m *Machine) Sound() bool {
	return hold(m.sessions.all(), m.isSoundSession) &&
		hold(m.windows.all(), m.isSoundWindow) &&
		hold(m.panes.all(), m.isSoundPane) &&
		hold(m.clients.all(), m.isSoundClient) &&
		(m.marked == 0 || m.panes.get(m.marked) != nil)
}

// hold tells whether all are so.
func hold[T any](all []*T, so func(*T) bool) bool {
	return !slices.ContainsFunc(all, func(one *T) bool { return !so(one) })
}

func (m *Machine) isSoundSession(s *session) bool {
	for _, w := range s.links {
		if m.windows.get(w.id) != w {
			return false
		}
	}
	return s.isOf(s.indexes())
}

func (m *Machine) isSoundWindow(w *window) bool {
	for _, id := range w.panes() {
		if p := m.panes.get(id); p == nil || p.in != w {
			return false
		}
	}
	return w.isOf(w.panes()) && len(m.linkedIn(w)) > 0
}

func (m *Machine) isSoundPane(p *pane) bool {
	return m.windows.get(p.in.id) == p.in && p.in.tree.Has(p.id)
}

func (m *Machine) isSoundClient(c *client) bool {
	return m.sessions.get(c.sees.id) == c.sees && (c.last == nil || m.sessions.get(c.last.id) == c.last)
}
