package session

import (
	"maps"
	"slices"
	"strconv"

	"mullion/api"
)

type sessions struct{ table[session] }

type session struct {
	id     int
	name   string
	links  map[int]*window // by their indexes
	choice                 // of an index
}

func (s *session) told() Session {
	out := Session{Id: s.id, Name: s.name, Current: s.chosen, Last: slices.Clone(s.last)}
	for _, index := range s.indexes() {
		out.Links = append(out.Links, Link{index, s.links[index].id})
	}
	return out
}

// current is its current window.
func (s *session) current() *window { return s.links[s.chosen] }

// Sessions is all of them, by rising ids; Session is one.
func (t *sessions) Sessions() []Session { return toldAll(t.all(), (*session).told) }

func (t *sessions) Session(id int) (Session, bool) { return toldOne(t.get(id), (*session).told) }

// named is the one of that name; nil: there is none.
func (t *sessions) named(name string) *session {
	for _, s := range t.of {
		if s.name == name {
			return s
		}
	}
	return nil
}

// Make makes a session with a window with a pane; Kill ends it; Name names it.
func (m *Machine) Make(name string, w, h, index int) (int, int, int, api.Errno) {
	switch {
	case !isSize(w, h) || index < 0 || index > api.MaxIndex:
		return 0, 0, 0, api.ErrArg
	case name != "" && !isName(name):
		return 0, 0, 0, api.ErrName
	case m.sessions.count() >= api.MaxSess || m.windows.count() >= api.MaxWindows:
		return 0, 0, 0, api.ErrMany
	}
	if name == "" {
		name = strconv.Itoa(m.sessions.next())
	}
	if m.named(name) != nil {
		return 0, 0, 0, api.ErrTwice
	}
	p := m.newPane()
	win := m.newWindow("", w, h, p)
	s := &session{id: m.sessions.next(), name: name, links: map[int]*window{index: win}, choice: choice{chosen: index}}
	m.sessions.add(s)
	return s.id, win.id, p.id, api.OK
}

func (m *Machine) Kill(session int) api.Errno {
	s := m.sessions.get(session)
	if s == nil {
		return api.ErrNone
	}
	for _, index := range s.indexes() {
		m.unlink(s, index)
	}
	m.settle()
	return api.OK
}

func (t *sessions) Name(session int, name string) api.Errno {
	s, other := t.get(session), t.named(name)
	switch {
	case s == nil:
		return api.ErrNone
	case !isName(name):
		return api.ErrName
	case other != nil && other != s:
		return api.ErrTwice
	}
	s.name = name
	return api.OK
}

// endSession takes a session without links away.
func (m *Machine) endSession(s *session) {
	m.sessions.drop(s.id)
	for _, c := range m.clients.all() {
		switch s {
		case c.sees:
			m.clients.drop(c.id)
		case c.last:
			c.last = nil
		}
	}
}

// Select selects a window by its index; Step the next one (by 1 or -1); Back the last one.
func (t *sessions) Select(session, index int) api.Errno {
	s, w := t.link(session, index)
	if w == nil {
		return api.ErrNone
	}
	s.choose(index)
	w.alert = 0
	return api.OK
}

func (t *sessions) Step(session, by int, alert bool) api.Errno {
	s := t.get(session)
	switch {
	case s == nil:
		return api.ErrNone
	case by != 1 && by != -1:
		return api.ErrArg
	}
	for _, index := range s.onward(by) {
		if !alert || s.links[index].alert != 0 {
			return t.Select(session, index)
		}
	}
	return api.ErrState
}

// onward is the indexes behind the current one, or, by -1, ahead of it, round and round up to it.
func (s *session) onward(by int) []int {
	indexes := s.indexes()
	if by < 0 {
		slices.Reverse(indexes)
	}
	at := slices.Index(indexes, s.chosen)
	return slices.Concat(indexes[at+1:], indexes[:at])
}

func (t *sessions) Back(session int) api.Errno {
	s := t.get(session)
	switch {
	case s == nil:
		return api.ErrNone
	case len(s.last) == 0:
		return api.ErrState
	}
	return t.Select(session, s.last[0])
}

// indexes is those of its links, rising.
func (s *session) indexes() []int { return slices.Sorted(maps.Keys(s.links)) }
