package session

import (
	"fmt"
	"maps"
	"math/rand"
	"slices"
	"strconv"
	"strings"
	"testing"

	"mullion/api"
	"mullion/layout"
)

// model is a machine kept another way: links are rows of one list, all else is found by numbers; a call is done with a copy, which is thrown away with an error.
type model struct {
	links   []row
	sess    map[int]modelSession
	win     map[int]modelWindow
	pane    map[int]int // the window that each is in
	client  map[int]Client
	kept    []modelBuffer
	given   [4]int // the last ids: of a session, a window, a pane, a client
	number  int    // of the last numbered buffer
	marked  int
	answers []string
}

type row struct{ session, index, window int }

type modelSession struct {
	name    string
	current int
	last    []int
}

type modelWindow struct {
	title  string
	tree   *layout.Tree
	active int
	last   []int
	zoomed bool
	alert  int
}

type modelBuffer struct {
	name, data string
	numbered   bool
}

func newModel() *model {
	return &model{sess: map[int]modelSession{}, win: map[int]modelWindow{}, pane: map[int]int{}, client: map[int]Client{}, number: -1}
}

func (m *model) copy() *model {
	c := *m
	c.links = slices.Clone(m.links)
	c.sess, c.win, c.pane, c.client = maps.Clone(m.sess), maps.Clone(m.win), maps.Clone(m.pane), maps.Clone(m.client)
	for id, w := range c.win {
		w.tree = w.tree.Clone()
		c.win[id] = w
	}
	c.kept = slices.Clone(m.kept)
	c.answers = nil
	return &c
}

// unless throws an error.
func unless(is bool, e api.Errno) {
	if !is {
		panic(e)
	}
}

func isOK(e api.Errno) { unless(e == api.OK, e) }

// without is a list without one, with it one with one ahead of it.
func without(l []int, one int) []int {
	out := []int{}
	for _, n := range l {
		if n != one {
			out = append(out, n)
		}
	}
	return out
}

func ahead(one int, l []int) []int { return append([]int{one}, l...) }

func (m *model) rows(session int) []row {
	var l []row
	for _, r := range m.links {
		if r.session == session {
			l = append(l, r)
		}
	}
	slices.SortFunc(l, func(a, b row) int { return a.index - b.index })
	return l
}

// at is the window that a session has at an index; 0: none.
func (m *model) at(session, index int) int {
	for _, r := range m.links {
		if r.session == session && r.index == index {
			return r.window
		}
	}
	return 0
}

func (m *model) has(session, window int) bool {
	return slices.ContainsFunc(m.links, func(r row) bool { return r.session == session && r.window == window })
}

func (m *model) panesOf(window int) []int {
	var l []int
	for _, b := range m.win[window].tree.Boxes() {
		l = append(l, b.Id)
	}
	return l
}

func (m *model) hasSession(id int) bool { _, is := m.sess[id]; return is }
func (m *model) hasWindow(id int) bool  { _, is := m.win[id]; return is }
func (m *model) hasPane(id int) bool    { return m.pane[id] != 0 }
func (m *model) hasClient(id int) bool  { _, is := m.client[id]; return is }

func nameIs(s string) bool {
	for i := range len(s) {
		if s[i] < 33 || s[i] > 126 || s[i] == ':' || s[i] == '.' {
			return false
		}
	}
	return len(s) >= 1 && len(s) <= 64
}

func titleIs(s string) bool {
	for i := range len(s) {
		if s[i] < 32 || s[i] == 127 {
			return false
		}
	}
	return len(s) <= 64
}

func sizeIs(w, h int) bool { return w >= 1 && w <= 250 && h >= 1 && h <= 120 }

// choose chooses an index of a session, activate a pane of a window.
func (m *model) choose(session, index int) {
	s := m.sess[session]
	if s.current != index {
		s.last = ahead(s.current, without(s.last, index))
		s.current = index
		m.sess[session] = s
	}
}

func (m *model) activate(pane int) {
	w := m.win[m.pane[pane]]
	if w.active != pane {
		w.last = ahead(w.active, without(w.last, pane))
		w.active = pane
		m.win[m.pane[pane]] = w
	}
}

func (m *model) quiet(session int) {
	id := m.at(session, m.sess[session].current)
	w := m.win[id]
	w.alert = 0
	m.win[id] = w
}

func (m *model) unzoom(window int) {
	w := m.win[window]
	w.zoomed = false
	m.win[window] = w
}

// goes lets a link go.
func (m *model) goes(session, index int) {
	m.links = slices.DeleteFunc(m.links, func(r row) bool { return r.session == session && r.index == index })
	s := m.sess[session]
	s.last = without(s.last, index)
	if left := m.rows(session); s.current == index && len(left) > 0 {
		switch {
		case len(s.last) > 0:
			s.current, s.last = s.last[0], s.last[1:]
		case left[len(left)-1].index < index:
			s.current = left[len(left)-1].index
		default:
			for _, r := range slices.Backward(left) {
				if r.index > index {
					s.current = r.index
				}
			}
		}
	}
	m.sess[session] = s
}

func (m *model) ends(window int) {
	for _, r := range slices.Clone(m.links) {
		if r.window == window {
			m.goes(r.session, r.index)
		}
	}
}

// sweep takes away what has no links, and what goes with it.
func (m *model) sweep() {
	for id := range m.sess {
		if len(m.rows(id)) > 0 {
			continue
		}
		delete(m.sess, id)
		for at, c := range m.client {
			if c.Session == id {
				delete(m.client, at)
			} else if c.Last == id {
				c.Last = 0
				m.client[at] = c
			}
		}
	}
	for id := range m.win {
		if !slices.ContainsFunc(m.links, func(r row) bool { return r.window == id }) {
			delete(m.win, id)
			maps.DeleteFunc(m.pane, func(_, in int) bool { return in == id })
		}
	}
	if !m.hasPane(m.marked) {
		m.marked = 0
	}
}

func (m *model) sizes() {
	for id, w := range m.win {
		least := [2]int{1000, 1000}
		for _, c := range m.client {
			if m.has(c.Session, id) {
				least = [2]int{min(least[0], c.W), min(least[1], max(1, c.H-1))}
			}
		}
		if now, also := w.tree.Size(); least[0] < 1000 && least != [2]int{now, also} {
			w.tree.Fit(least[0], least[1])
		}
	}
}

// leaves takes a pane out of its window, which ends, if it was its only one.
func (m *model) leaves(pane, window int) {
	if len(m.panesOf(window)) == 1 {
		m.ends(window)
		return
	}
	w := m.win[window]
	w.tree.Close(pane)
	w.zoomed = false
	w.last = without(w.last, pane)
	if w.active == pane && len(w.last) == 0 {
		w.active = w.tree.Boxes()[0].Id
	} else if w.active == pane {
		w.active, w.last = w.last[0], w.last[1:]
	}
	m.win[window] = w
}

func (m *model) fresh(kind int) int {
	m.given[kind]++
	return m.given[kind]
}

func (m *model) newWindow(session, index int, title string, w, h, pane int) int {
	id := m.fresh(1)
	tree, e := layout.New(w, h, pane)
	isOK(e)
	m.win[id] = modelWindow{title: title, tree: tree, active: pane}
	m.pane[pane] = id
	m.links = append(m.links, row{session, index, id})
	return id
}

// free is the index that is meant, if it has no link.
func (m *model) free(session, index int) int {
	for index == -1 {
		for index = 0; m.at(session, index) != 0; index++ {
		}
	}
	unless(m.at(session, index) == 0, api.ErrTwice)
	return index
}

func (m *model) mayOpen(session, index int, title string) int {
	unless(index >= -1 && index <= 9999, api.ErrArg)
	unless(titleIs(title), api.ErrName)
	unless(len(m.win) < 64 && len(m.rows(session)) < 64, api.ErrMany)
	return m.free(session, index)
}

func (m *model) tell(v ...any) {
	for _, one := range v {
		if s, is := one.(string); is && s == "" {
			one = "_"
		}
		m.answers = append(m.answers, fmt.Sprint(one))
	}
}

// do does a call as a script has it, and tells its answer.
func (m *model) do(call string) (said string) {
	c := m.copy()
	defer func() {
		switch e := recover().(type) {
		case nil:
		case api.Errno:
			said = "!" + strconv.Itoa(int(e))
		default:
			panic(e)
		}
	}()
	words := strings.Fields(call)
	a := arguments(words[1:])
	of := map[string]func(*model, arguments){
		"Make": (*model).Make, "Kill": (*model).Kill, "Name": (*model).Name,
		"Open": (*model).Open, "Shut": (*model).Shut, "Title": (*model).Title,
		"Link": (*model).Link, "Unlink": (*model).Unlink, "Move": (*model).Move, "Trade": (*model).Trade,
		"Select": (*model).Select, "Step": (*model).Step, "Back": (*model).Back,
		"Split": (*model).Split, "Close": (*model).Close, "Active": (*model).Active, "Before": (*model).Before,
		"Swap": (*model).Swap, "Break": (*model).Break, "Join": (*model).Join,
		"Resize": (*model).Resize, "Zoom": (*model).Zoom, "Lay": (*model).Lay, "Rotate": (*model).Rotate, "Size": (*model).Size,
		"Alert": (*model).Alert, "Attach": (*model).Attach, "Detach": (*model).Detach, "Switch": (*model).Switch, "Grow": (*model).Grow,
		"Store": (*model).Store, "Drop": (*model).Drop, "Mark": (*model).Mark,
	}
	of[words[0]](c, a)
	c.sweep()
	c.sizes()
	*m = *c
	return strings.Join(m.answers, " ")
}

// arguments are a call's, as words.
type arguments []string

func (a arguments) n(i int) int {
	n, err := strconv.Atoi(a[i])
	if err != nil {
		panic(err)
	}
	return n
}

func (a arguments) is(i int) bool { return a[i] == "true" }

func (a arguments) text(i int) string {
	if a[i] == "_" {
		return ""
	}
	return a[i]
}

func (m *model) Make(a arguments) {
	name := a.text(0)
	unless(sizeIs(a.n(1), a.n(2)) && a.n(3) >= 0 && a.n(3) <= 9999, api.ErrArg)
	unless(name == "" || nameIs(name), api.ErrName)
	unless(len(m.sess) < 16 && len(m.win) < 64, api.ErrMany)
	id := m.fresh(0)
	if name == "" {
		name = fmt.Sprint(id)
	}
	for _, s := range m.sess {
		unless(s.name != name, api.ErrTwice)
	}
	m.sess[id] = modelSession{name: name, current: a.n(3)}
	pane := m.fresh(2)
	m.tell(id, m.newWindow(id, a.n(3), "", a.n(1), a.n(2), pane), pane)
}

func (m *model) Kill(a arguments) {
	unless(m.hasSession(a.n(0)), api.ErrNone)
	for _, r := range m.rows(a.n(0)) {
		m.goes(r.session, r.index)
	}
}

func (m *model) Name(a arguments) {
	unless(m.hasSession(a.n(0)), api.ErrNone)
	unless(nameIs(a.text(1)), api.ErrName)
	for id, s := range m.sess {
		unless(id == a.n(0) || s.name != a[1], api.ErrTwice)
	}
	s := m.sess[a.n(0)]
	s.name = a[1]
	m.sess[a.n(0)] = s
}

func (m *model) Open(a arguments) {
	session := a.n(0)
	unless(m.hasSession(session), api.ErrNone)
	index := m.mayOpen(session, a.n(1), a.text(2))
	w, h := m.win[m.at(session, m.sess[session].current)].tree.Size()
	pane := m.fresh(2)
	m.tell(m.newWindow(session, index, a.text(2), w, h, pane), pane)
	if a.is(3) {
		m.choose(session, index)
	}
}

func (m *model) Shut(a arguments) {
	unless(m.hasWindow(a.n(0)), api.ErrNone)
	m.ends(a.n(0))
}

func (m *model) Title(a arguments) {
	unless(m.hasWindow(a.n(0)), api.ErrNone)
	unless(titleIs(a.text(1)), api.ErrName)
	w := m.win[a.n(0)]
	w.title = a.text(1)
	m.win[a.n(0)] = w
}

func (m *model) Link(a arguments) {
	session, index, window := a.n(0), a.n(1), a.n(2)
	unless(m.hasSession(session) && m.hasWindow(window), api.ErrNone)
	unless(index >= -1 && index <= 9999, api.ErrArg)
	unless(len(m.rows(session)) < 64, api.ErrMany)
	index = m.free(session, index)
	unless(!m.has(session, window), api.ErrTwice)
	m.links = append(m.links, row{session, index, window})
}

func (m *model) Unlink(a arguments) {
	window := m.at(a.n(0), a.n(1))
	unless(window != 0, api.ErrNone)
	n := 0
	for _, r := range m.links {
		if r.window == window {
			n++
		}
	}
	unless(n > 1, api.ErrState)
	m.goes(a.n(0), a.n(1))
}

func (m *model) Move(a arguments) {
	from, index, to, other := a.n(0), a.n(1), a.n(2), a.n(3)
	window := m.at(from, index)
	unless(window != 0 && m.hasSession(to), api.ErrNone)
	unless(other >= -1 && other <= 9999, api.ErrArg)
	if to == from && other == index {
		return
	}
	other = m.free(to, other)
	if to != from {
		unless(!m.has(to, window), api.ErrTwice)
		unless(len(m.rows(to)) < 64, api.ErrMany)
		m.links = append(m.links, row{to, other, window})
		m.goes(from, index)
		return
	}
	for i, r := range m.links {
		if r.session == from && r.index == index {
			m.links[i].index = other
		}
	}
	s := m.sess[from]
	s.last = slices.Clone(s.last)
	for i, n := range s.last {
		if n == index {
			s.last[i] = other
		}
	}
	if s.current == index {
		s.current = other
	}
	m.sess[from] = s
}

func (m *model) Trade(a arguments) {
	v, w := m.at(a.n(0), a.n(1)), m.at(a.n(2), a.n(3))
	unless(v != 0 && w != 0, api.ErrNone)
	unless(a[0] == a[2] || !m.has(a.n(0), w) && !m.has(a.n(2), v), api.ErrTwice)
	for i, r := range m.links {
		if r.session == a.n(0) && r.index == a.n(1) {
			m.links[i].window = w
		}
		if r.session == a.n(2) && r.index == a.n(3) {
			m.links[i].window = v
		}
	}
}

func (m *model) Select(a arguments) {
	unless(m.at(a.n(0), a.n(1)) != 0, api.ErrNone)
	m.choose(a.n(0), a.n(1))
	m.quiet(a.n(0))
}

func (m *model) Step(a arguments) {
	unless(m.hasSession(a.n(0)), api.ErrNone)
	unless(a[1] == "1" || a[1] == "-1", api.ErrArg)
	current := m.sess[a.n(0)].current
	for i := current + a.n(1); i != current; i += a.n(1) {
		if i < -1 || i > 10000 {
			i = 10000 - max(i, 0)
			if i < 0 {
				i = -1
			}
			continue
		}
		if w := m.at(a.n(0), i); w != 0 && (!a.is(2) || m.win[w].alert != 0) {
			m.choose(a.n(0), i)
			m.quiet(a.n(0))
			return
		}
	}
	panic(api.ErrState)
}

func (m *model) Back(a arguments) {
	unless(m.hasSession(a.n(0)), api.ErrNone)
	last := m.sess[a.n(0)].last
	unless(len(last) > 0, api.ErrState)
	m.choose(a.n(0), last[0])
	m.quiet(a.n(0))
}

func (m *model) Split(a arguments) {
	unless(m.hasPane(a.n(0)), api.ErrNone)
	id, window := m.fresh(2), m.pane[a.n(0)]
	isOK(m.win[window].tree.Split(a.n(0), id, a.is(1), a.n(2), a.is(3)))
	m.pane[id] = window
	m.unzoom(window)
	m.activate(id)
	m.tell(id)
}

func (m *model) Close(a arguments) {
	unless(m.hasPane(a.n(0)), api.ErrNone)
	m.leaves(a.n(0), m.pane[a.n(0)])
	delete(m.pane, a.n(0))
}

func (m *model) Active(a arguments) {
	unless(m.hasPane(a.n(0)), api.ErrNone)
	if window := m.pane[a.n(0)]; m.win[window].active != a.n(0) {
		m.unzoom(window)
		m.activate(a.n(0))
	}
}

func (m *model) Before(a arguments) {
	unless(m.hasWindow(a.n(0)), api.ErrNone)
	last := m.win[a.n(0)].last
	unless(len(last) > 0, api.ErrState)
	m.unzoom(a.n(0))
	m.activate(last[0])
}

// instead lets another pane stand wherever one stood.
func (w modelWindow) instead(one, other int) modelWindow {
	w.last = slices.Clone(w.last)
	for i, p := range w.last {
		if p == one {
			w.last[i] = other
		}
	}
	if w.active == one {
		w.active = other
	}
	return w
}

func (m *model) Swap(a arguments) {
	p, q := a.n(0), a.n(1)
	unless(m.hasPane(p) && m.hasPane(q), api.ErrNone)
	if p == q {
		return
	}
	v, w := m.pane[p], m.pane[q]
	m.unzoom(v)
	m.unzoom(w)
	if v == w {
		isOK(m.win[v].tree.Swap(p, q))
		return
	}
	isOK(m.win[v].tree.Rename(p, q))
	isOK(m.win[w].tree.Rename(q, p))
	m.pane[p], m.pane[q] = w, v
	m.win[v], m.win[w] = m.win[v].instead(p, q), m.win[w].instead(q, p)
}

func (m *model) Break(a arguments) {
	pane, session := a.n(0), a.n(1)
	unless(m.hasPane(pane) && m.hasSession(session), api.ErrNone)
	window := m.pane[pane]
	unless(len(m.panesOf(window)) > 1, api.ErrState)
	index := m.mayOpen(session, a.n(2), "")
	m.leaves(pane, window)
	w, h := m.win[window].tree.Size()
	m.tell(m.newWindow(session, index, "", w, h, pane))
}

func (m *model) Join(a arguments) {
	pane, to := a.n(0), a.n(1)
	unless(m.hasPane(pane) && m.hasPane(to), api.ErrNone)
	old, window := m.pane[pane], m.pane[to]
	unless(old != window, api.ErrArg)
	isOK(m.win[window].tree.Split(to, pane, a.is(2), a.n(3), a.is(4)))
	m.leaves(pane, old)
	m.pane[pane] = window
	m.activate(pane)
	m.unzoom(window)
}

func (m *model) Resize(a arguments) {
	unless(m.hasPane(a.n(0)), api.ErrNone)
	w := m.win[m.pane[a.n(0)]]
	unless(!w.zoomed, api.ErrState)
	isOK(w.tree.Resize(a.n(0), a[1][0], a.n(2)))
}

func (m *model) Zoom(a arguments) {
	unless(m.hasPane(a.n(0)), api.ErrNone)
	window := m.pane[a.n(0)]
	if m.win[window].zoomed {
		m.unzoom(window)
	} else if len(m.panesOf(window)) > 1 {
		m.activate(a.n(0))
		w := m.win[window]
		w.zoomed = true
		m.win[window] = w
	}
}

func (m *model) Lay(a arguments) {
	unless(m.hasWindow(a.n(0)), api.ErrNone)
	tree := m.win[a.n(0)].tree
	w, h := tree.Size()
	switch a[1] {
	case "even-horizontal", "even-vertical", "main-horizontal", "main-vertical", "tiled":
		isOK(tree.Preset(a[1]))
	default:
		isOK(tree.Apply(a.text(1)))
		isOK(tree.Fit(w, h))
	}
	m.unzoom(a.n(0))
}

func (m *model) Rotate(a arguments) {
	unless(m.hasWindow(a.n(0)), api.ErrNone)
	// By names that no pane has, each leaf is given another pane.
	const spare = 1 << 40
	panes, tree := m.panesOf(a.n(0)), m.win[a.n(0)].tree
	for i, p := range panes {
		isOK(tree.Rename(p, spare+i))
	}
	for i := range panes {
		from := (i + 1) % len(panes)
		if a.is(1) {
			from = (i + len(panes) - 1) % len(panes)
		}
		isOK(tree.Rename(spare+i, panes[from]))
	}
	m.unzoom(a.n(0))
}

func (m *model) Size(a arguments) {
	unless(m.hasWindow(a.n(0)), api.ErrNone)
	isOK(m.win[a.n(0)].tree.Fit(a.n(1), a.n(2)))
}

func (m *model) Alert(a arguments) {
	unless(m.hasWindow(a.n(0)), api.ErrNone)
	unless(a.n(1) >= 0 && a.n(1) <= 3, api.ErrArg)
	for _, c := range m.client {
		if m.at(c.Session, m.sess[c.Session].current) == a.n(0) {
			return
		}
	}
	w := m.win[a.n(0)]
	w.alert |= a.n(1)
	m.win[a.n(0)] = w
}

func (m *model) Attach(a arguments) {
	unless(m.hasSession(a.n(0)), api.ErrNone)
	unless(sizeIs(a.n(1), a.n(2)), api.ErrArg)
	unless(len(m.client) < 16, api.ErrMany)
	id := m.fresh(3)
	m.client[id] = Client{Id: id, Session: a.n(0), W: a.n(1), H: a.n(2)}
	m.quiet(a.n(0))
	m.tell(id)
}

func (m *model) Detach(a arguments) {
	unless(m.hasClient(a.n(0)), api.ErrNone)
	delete(m.client, a.n(0))
}

func (m *model) Switch(a arguments) {
	unless(m.hasClient(a.n(0)) && m.hasSession(a.n(1)), api.ErrNone)
	if c := m.client[a.n(0)]; c.Session != a.n(1) {
		c.Last = c.Session
		c.Session = a.n(1)
		m.client[a.n(0)] = c
		m.quiet(a.n(1))
	}
}

func (m *model) Grow(a arguments) {
	unless(m.hasClient(a.n(0)), api.ErrNone)
	unless(sizeIs(a.n(1), a.n(2)), api.ErrArg)
	c := m.client[a.n(0)]
	c.W, c.H = a.n(1), a.n(2)
	m.client[a.n(0)] = c
}

func (m *model) buffer(name string) int {
	for i, b := range m.kept {
		if b.name == name {
			return i
		}
	}
	return -1
}

func (m *model) Store(a arguments) {
	name := a.text(0)
	unless(len(a.text(1)) <= 65536, api.ErrLong)
	unless(name == "" || nameIs(name), api.ErrName)
	b := modelBuffer{name, a.text(1), false}
	if name == "" {
		b.numbered = true
		for b.name == "" || m.buffer(b.name) >= 0 {
			m.number++
			b.name = fmt.Sprint("buffer", m.number)
		}
	}
	if i := m.buffer(b.name); i >= 0 {
		m.kept = append(m.kept[:i:i], m.kept[i+1:]...)
	}
	if len(m.kept) == 20 {
		i := 19
		for i >= 0 && !m.kept[i].numbered {
			i--
		}
		unless(i >= 0, api.ErrMany)
		m.kept = append(m.kept[:i:i], m.kept[i+1:]...)
	}
	m.kept = append([]modelBuffer{b}, m.kept...)
	m.tell(b.name)
}

func (m *model) Drop(a arguments) {
	i := m.buffer(a.text(0))
	if a.text(0) == "" && len(m.kept) > 0 {
		i = 0
	}
	unless(i >= 0, api.ErrNone)
	m.kept = append(m.kept[:i:i], m.kept[i+1:]...)
}

func (m *model) Mark(a arguments) {
	unless(a[0] == "0" || m.hasPane(a.n(0)), api.ErrNone)
	m.marked = a.n(0)
}

// What it tells.

func rising[V any](m map[int]V) []int { return slices.Sorted(maps.Keys(m)) }

func (m *model) Sessions() (out []Session) {
	for _, id := range rising(m.sess) {
		s := Session{Id: id, Name: m.sess[id].name, Current: m.sess[id].current, Last: m.sess[id].last}
		for _, r := range m.rows(id) {
			s.Links = append(s.Links, Link{r.index, r.window})
		}
		out = append(out, s)
	}
	return out
}

func (m *model) Windows() (out []Window) {
	for _, id := range rising(m.win) {
		w := m.win[id]
		cols, rows := w.tree.Size()
		out = append(out, Window{id, w.title, cols, rows, w.tree.Print(), m.panesOf(id), w.active, w.last, w.zoomed, w.alert})
	}
	return out
}

func (m *model) Panes() (out []Pane) {
	for _, id := range rising(m.pane) {
		w := m.win[m.pane[id]]
		p := Pane{Id: id, Window: m.pane[id]}
		for _, b := range w.tree.Boxes() {
			if b.Id == id {
				p.Box = b
			}
		}
		if w.zoomed && w.active == id {
			p.Box.X, p.Box.Y = 0, 0
			p.Box.W, p.Box.H = w.tree.Size()
		}
		out = append(out, p)
	}
	return out
}

func (m *model) Clients() (out []Client) {
	for _, id := range rising(m.client) {
		out = append(out, m.client[id])
	}
	return out
}

func (m *model) Buffers() (out []string) {
	for _, b := range m.kept {
		out = append(out, b.name)
	}
	return out
}

func (m *model) Fetch(name string) (string, string, api.Errno) {
	b := m.kept[m.buffer(name)]
	return b.name, b.data, api.OK
}

func (m *model) Marked() int { return m.marked }

// caller makes up calls.
type caller struct {
	*rand.Rand
	m    *model
	wild int // one argument of so many is any
}

func (c *caller) one(of []int) int {
	if c.Intn(c.wild) == 0 || len(of) == 0 {
		return append(far, -1, 0, 1, 2, 99)[c.Intn(len(far)+5)]
	}
	return of[c.Intn(len(of))]
}

func (c *caller) session() int { return c.one(rising(c.m.sess)) }
func (c *caller) window() int  { return c.one(rising(c.m.win)) }
func (c *caller) pane() int    { return c.one(rising(c.m.pane)) }
func (c *caller) client() int  { return c.one(rising(c.m.client)) }
func (c *caller) flag() bool   { return c.Intn(2) == 0 }

// link is a session and an index of it, mostly.
func (c *caller) link() string {
	if len(c.m.links) == 0 || c.Intn(c.wild) == 0 {
		return fmt.Sprint(c.session(), " ", c.index())
	}
	r := c.m.links[c.Intn(len(c.m.links))]
	return fmt.Sprint(r.session, " ", r.index)
}

func (c *caller) index() int {
	if c.Intn(4) == 0 {
		return -1
	}
	return c.one([]int{0, 1, 2, 3, 4, 5, 9998, 9999})
}

func (c *caller) size() string {
	if c.Intn(3) == 0 {
		return fmt.Sprint(c.one([]int{1, 2, 3, 4, 5, 7}), " ", c.one([]int{1, 2, 3, 4, 5, 7}))
	}
	return fmt.Sprint(c.one([]int{10, 40, 80, 133, 250}), " ", c.one([]int{8, 24, 50, 120}))
}

func (c *caller) of(l ...string) string { return l[c.Intn(len(l))] }

func (c *caller) name() string {
	return c.of("_", "_", "a", "b", "c", "1", "2", "3", "buffer1", "buffer4", "buffer9", "x:y", "é", strings.Repeat("n", 64), strings.Repeat("n", 65), fmt.Sprint("n", c.Intn(40)))
}

func (c *caller) text() string {
	if len(c.m.win) > 0 && c.Intn(2) == 0 {
		ids := rising(c.m.win)
		return c.m.win[ids[c.Intn(len(ids))]].tree.Print()
	}
	return c.of("even-horizontal", "even-vertical", "main-horizontal", "main-vertical", "tiled", "none", "_", "0000,80x24,0,0,1", "b25d,80x24,0,0,0")
}

// splitting is the arguments behind those panes of a call.
func (c *caller) splitting() string {
	return fmt.Sprint(c.flag(), " ", c.one([]int{0, 0, 0, 1, 2, 5, 20}), " ", c.flag())
}

// call is any one.
func (c *caller) call() string {
	switch c.Intn(34) {
	case 0, 1:
		return fmt.Sprint("Make ", c.name(), " ", c.size(), " ", c.index())
	case 2:
		if c.Intn(3) > 0 {
			return fmt.Sprint("Back ", c.session())
		}
		return fmt.Sprint("Kill ", c.session())
	case 3:
		return fmt.Sprint("Name ", c.session(), " ", c.name())
	case 4, 5:
		return fmt.Sprint("Open ", c.session(), " ", c.index(), " ", c.name(), " ", c.flag())
	case 6:
		return fmt.Sprint("Shut ", c.window())
	case 7:
		return fmt.Sprint("Title ", c.window(), " ", c.name())
	case 8:
		return fmt.Sprint("Link ", c.session(), " ", c.index(), " ", c.window())
	case 9:
		return fmt.Sprint("Unlink ", c.link())
	case 10:
		return fmt.Sprint("Move ", c.link(), " ", c.session(), " ", c.index())
	case 11:
		return fmt.Sprint("Trade ", c.link(), " ", c.link())
	case 12:
		return fmt.Sprint("Select ", c.link())
	case 13:
		return fmt.Sprint("Step ", c.session(), " ", c.one([]int{1, -1}), " ", c.flag())
	case 14:
		return fmt.Sprint("Back ", c.session())
	case 15, 16, 17:
		return fmt.Sprint("Split ", c.pane(), " ", c.splitting())
	case 18:
		return fmt.Sprint("Close ", c.pane())
	case 19:
		return fmt.Sprint("Active ", c.pane())
	case 20:
		return fmt.Sprint("Before ", c.window())
	case 21:
		return fmt.Sprint("Swap ", c.pane(), " ", c.pane())
	case 22:
		return fmt.Sprint("Break ", c.pane(), " ", c.session(), " ", c.index())
	case 23:
		return fmt.Sprint("Join ", c.pane(), " ", c.pane(), " ", c.splitting())
	case 24:
		return fmt.Sprint("Resize ", c.pane(), " ", c.of("L", "R", "U", "D", "x"), " ", c.one([]int{1, 2, 5, 100}))
	case 25:
		return fmt.Sprint("Zoom ", c.pane())
	case 26:
		return fmt.Sprint("Lay ", c.window(), " ", c.text())
	case 27:
		if c.flag() {
			return fmt.Sprint("Size ", c.window(), " ", c.size())
		}
		return fmt.Sprint("Rotate ", c.window(), " ", c.flag())
	case 28:
		return fmt.Sprint("Alert ", c.window(), " ", c.Intn(6)-1)
	case 29:
		return fmt.Sprint("Attach ", c.session(), " ", c.size())
	case 30:
		if c.flag() {
			return fmt.Sprint("Detach ", c.client())
		}
		return fmt.Sprint("Mark ", c.pane())
	case 31:
		return fmt.Sprint("Switch ", c.client(), " ", c.session())
	case 32:
		return fmt.Sprint("Grow ", c.client(), " ", c.size())
	}
	if c.Intn(6) == 0 {
		return fmt.Sprint("Drop ", c.name())
	}
	return fmt.Sprint("Store ", c.name(), " ", c.of("_", "x", "y"))
}

// Any calls one behind the other are answered as the chapter says, and leave what it says.
func TestModel(t *testing.T) {
	errors := map[string]int{}
	for seed := range int64(150) {
		want, m := newModel(), New()
		c := &caller{rand.New(rand.NewSource(seed)), want, 5 + int(seed%3)*20}
		for range 200 {
			call := c.call()
			should := want.do(call)
			got := do(t, m, call)
			if got != should || all(m) != all(want) {
				t.Fatalf("seed %d: %s: %s, must be %s:\n%s\nmust be\n%s", seed, call, got, should, all(m), all(want))
			}
			holds(t, m, call)
			if strings.HasPrefix(got, "!") {
				errors[strings.Fields(call)[0]+got]++
			}
		}
	}
	for _, e := range strings.Fields("Make!1 Make!6 Make!7 Kill!8 Name!8 Name!6 Name!7 Open!8 Open!1 Open!6 Open!7 Shut!8 Title!8 Title!6 Link!8 Link!1 Link!7 Unlink!8 Unlink!14 Move!8 Move!1 Move!7 Trade!8 Trade!7 Select!8 Step!8 Step!1 Step!14 Back!8 Back!14 Split!8 Split!1 Split!5 Close!8 Active!8 Before!8 Before!14 Swap!8 Break!8 Break!14 Break!1 Break!7 Join!8 Join!1 Join!5 Resize!8 Resize!14 Resize!1 Zoom!8 Lay!8 Lay!3 Lay!4 Lay!5 Lay!15 Rotate!8 Size!8 Size!1 Size!5 Alert!8 Alert!1 Attach!8 Attach!1 Detach!8 Switch!8 Grow!8 Grow!1 Store!6 Drop!8 Mark!8") {
		if errors[e] == 0 {
			t.Errorf("%s was never told", e)
		}
	}
}

// The same where there is as much as may be: all but calls that take away.
func TestModelFull(t *testing.T) {
	taking := []string{"Kill", "Shut", "Close", "Join", "Detach", "Drop", "Unlink"}
	errors := map[string]int{}
	for seed := range int64(4) {
		want, m := newModel(), New()
		c := &caller{rand.New(rand.NewSource(seed)), want, 30}
		for i := range 1500 {
			call := c.call()
			if slices.Contains(taking, strings.Fields(call)[0]) && c.Intn(20) > 0 {
				continue
			}
			should := want.do(call)
			got := do(t, m, call)
			if got != should || i%7 == 0 && all(m) != all(want) {
				t.Fatalf("seed %d: %s: %s, must be %s:\n%s\nmust be\n%s", seed, call, got, should, all(m), all(want))
			}
			if strings.HasPrefix(got, "!") {
				errors[strings.Fields(call)[0]+got]++
			}
		}
		holds(t, m, "the end")
	}
	for _, e := range strings.Fields("Make!3 Open!3 Break!3 Attach!3") {
		if errors[e] == 0 {
			t.Errorf("%s was never told", e)
		}
	}
}
