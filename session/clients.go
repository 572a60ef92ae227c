package session

import "mullion/api"

type clients struct{ table[client] }

type client struct {
	id, w, h   int
	sees, last *session // last may be nil
}

func (c *client) told() Client {
	out := Client{Id: c.id, Session: c.sees.id, W: c.w, H: c.h}
	if c.last != nil {
		out.Last = c.last.id
	}
	return out
}

// Clients is all of them, by rising ids; Client is one.
func (t *clients) Clients() []Client { return toldAll(t.all(), (*client).told) }

func (t *clients) Client(id int) (Client, bool) { return toldOne(t.get(id), (*client).told) }

func isSize(w, h int) bool {
	return 1 <= w && w <= api.MaxCols && 1 <= h && h <= api.MaxRows
}

// isSeen tells whether a window is current in a session that a client sees.
func (t *clients) isSeen(w *window) bool {
	for _, c := range t.of {
		if c.sees.current() == w {
			return true
		}
	}
	return false
}

// Attach makes a client see a session, Detach takes it away, Switch another session, Grow another size.
func (m *Machine) Attach(session, w, h int) (int, api.Errno) {
	s := m.sessions.get(session)
	switch {
	case s == nil:
		return 0, api.ErrNone
	case !isSize(w, h):
		return 0, api.ErrArg
	case m.clients.count() >= api.MaxClients:
		return 0, api.ErrMany
	}
	c := &client{id: m.clients.next(), w: w, h: h, sees: s}
	m.clients.add(c)
	s.current().alert = 0
	m.settle()
	return c.id, api.OK
}

func (m *Machine) Detach(client int) api.Errno {
	if m.clients.get(client) == nil {
		return api.ErrNone
	}
	m.clients.drop(client)
	m.settle()
	return api.OK
}

func (m *Machine) Switch(client, session int) api.Errno {
	c, s := m.clients.get(client), m.sessions.get(session)
	switch {
	case c == nil || s == nil:
		return api.ErrNone
	case c.sees == s:
		return api.OK
	}
	c.last, c.sees = c.sees, s
	s.current().alert = 0
	m.settle()
	return api.OK
}

func (m *Machine) Grow(client, w, h int) api.Errno {
	c := m.clients.get(client)
	switch {
	case c == nil:
		return api.ErrNone
	case !isSize(w, h):
		return api.ErrArg
	}
	c.w, c.h = w, h
	m.settle()
	return api.OK
}

// size is columns, rows.
type size struct{ w, h int }

// settle gives each window the size that the clients of its sessions leave it. It stands behind each call that changes what there is, where it is linked, or how many panes lie how; no other one bears on sizes.
func (m *Machine) settle() {
	room := map[int]size{} // by windows' ids
	for _, c := range m.clients.all() {
		for _, w := range c.sees.links {
			least := size{c.w, max(c.h-1, 1)}
			if other, has := room[w.id]; has {
				least = size{min(least.w, other.w), min(least.h, other.h)}
			}
			room[w.id] = least
		}
	}
	for _, w := range m.windows.all() {
		if to, has := room[w.id]; has {
			w.tree.Fit(to.w, to.h) // refused: it stays as it is
		}
	}
}
