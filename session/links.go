package session

import (
	"slices"

	"mullion/api"
)

// firstFree stands for the least index that has no link.
const firstFree = -1

func isPlace(index int) bool { return firstFree <= index && index <= api.MaxIndex }

// link is a session, and its window at an index; nil, if they aren't there.
func (t *sessions) link(id, index int) (*session, *window) {
	s := t.get(id)
	if s == nil {
		return nil, nil
	}
	return s, s.links[index]
}

// place is the index that is meant, and whether it has no link.
func (s *session) place(index int) (int, bool) {
	if index == firstFree {
		index = 0
		for s.links[index] != nil {
			index++
		}
	}
	return index, s.links[index] == nil
}

// indexOf is where a session has a window; below 0: nowhere.
func (s *session) indexOf(w *window) int {
	for index, other := range s.links {
		if other == w {
			return index
		}
	}
	return -1
}

func (s *session) has(w *window) bool { return s.indexOf(w) >= 0 }

// linkedIn is the sessions that have a window, by rising ids.
func (t *sessions) linkedIn(w *window) []*session {
	return slices.DeleteFunc(t.all(), func(s *session) bool { return !s.has(w) })
}

// nearest is the least index above one, or, if there is none, the greatest one below; without links it is none.
func (s *session) nearest(index int) int {
	nearest := -1
	for _, other := range s.indexes() {
		nearest = other
		if other > index {
			break
		}
	}
	return nearest
}

// unlink lets a link go: with it the session, if it was its last one, and the window, likewise.
func (m *Machine) unlink(s *session, index int) {
	w := s.links[index]
	delete(s.links, index)
	s.lose(index, s.nearest(index))
	if len(s.links) == 0 {
		m.endSession(s)
	}
	if len(m.linkedIn(w)) == 0 {
		m.endWindow(w)
	}
}

// Link links a window into a session, Unlink takes it out, Move moves a link, Trade swaps two.
func (m *Machine) Link(session, index, window int) api.Errno {
	s, w := m.sessions.get(session), m.windows.get(window)
	switch {
	case s == nil || w == nil:
		return api.ErrNone
	case !isPlace(index):
		return api.ErrArg
	case len(s.links) >= api.MaxLinks:
		return api.ErrMany
	}
	index, free := s.place(index)
	if !free || s.has(w) {
		return api.ErrTwice
	}
	s.links[index] = w
	m.settle()
	return api.OK
}

func (m *Machine) Unlink(session, index int) api.Errno {
	s, w := m.link(session, index)
	switch {
	case w == nil:
		return api.ErrNone
	case len(m.linkedIn(w)) == 1:
		return api.ErrState
	}
	m.unlink(s, index)
	m.settle()
	return api.OK
}

func (m *Machine) Move(from, index, to, other int) api.Errno {
	s, w := m.link(from, index)
	into := m.sessions.get(to)
	switch {
	case w == nil || into == nil:
		return api.ErrNone
	case !isPlace(other):
		return api.ErrArg
	case into == s && other == index:
		return api.OK
	}
	other, free := into.place(other)
	switch {
	case !free || into != s && into.has(w):
		return api.ErrTwice
	case into != s && len(into.links) >= api.MaxLinks:
		return api.ErrMany
	}
	into.links[other] = w
	if into == s {
		delete(s.links, index)
		s.rename(index, other)
	} else {
		m.unlink(s, index)
	}
	m.settle()
	return api.OK
}

func (m *Machine) Trade(from, index, to, other int) api.Errno {
	a, v := m.link(from, index)
	b, w := m.link(to, other)
	switch {
	case v == nil || w == nil:
		return api.ErrNone
	case a != b && (a.has(w) || b.has(v)):
		return api.ErrTwice
	}
	a.links[index], b.links[other] = w, v
	m.settle()
	return api.OK
}
