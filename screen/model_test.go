package screen

import (
	"fmt"
	"math/rand"
	"slices"
	"strings"
	"testing"

	"mullion/api"
	"mullion/cell"
	"mullion/grid"
	"mullion/style"
	"mullion/vtparse"
)

// term is what a screen must be, kept another way: modes as names, tab stops as a map, all that is saved as a copy of the whole, each action done line by line as the chapter tells it.
type term struct {
	cols, rows  int
	main, other *grid.Grid // other: of the other screen, while it is on
	x, y        int
	wait        bool
	pen         api.Style
	on          map[string]bool
	top, bottom int
	stops       map[int]bool
	sets        string // what the first and the second charset are, p or l
	hand        int
	saved       map[bool]keep // by: is the other screen on?
	title       string
	again       rune
	bells       int
	parser      *vtparse.Parser
	reply       string
}

// keep is what is saved.
type keep struct {
	x, y   int
	wait   bool
	pen    api.Style
	origin bool
	sets   string
	hand   int
}

var modeNames = map[string]int{"wrap": 1, "insert": 2, "origin": 4, "cursor": 8, "keys": 16, "keypad": 32, "bracket": 64, "mouse": 128, "alt": 256, "new": 512}

func newTerm(cols, rows, history int) *term {
	m := &term{cols: cols, rows: rows}
	m.main, _ = grid.New(cols, rows, history)
	m.reset()
	return m
}

func (m *term) reset() {
	limit := m.main.Limit()
	m.main, _ = grid.New(m.cols, m.rows, limit)
	fresh := keep{pen: api.Style{Fg: -1, Bg: -1}, sets: "pp"}
	*m = term{cols: m.cols, rows: m.rows, main: m.main, bottom: m.rows - 1, bells: m.bells, parser: vtparse.New(), reply: m.reply,
		on: map[string]bool{"wrap": true, "cursor": true}, stops: map[int]bool{}, saved: map[bool]keep{false: fresh, true: fresh}}
	m.become(fresh)
	for x := 8; x < m.cols; x += 8 {
		m.stops[x] = true
	}
}

func (m *term) is() keep {
	return keep{m.x, m.y, m.wait, m.pen, m.on["origin"], m.sets, m.hand}
}

func (m *term) become(k keep) {
	m.x, m.y, m.wait, m.pen, m.on["origin"], m.sets, m.hand = k.x, k.y, k.wait, k.pen, k.origin, k.sets, k.hand
}

func (m *term) grid() *grid.Grid {
	if m.on["alt"] {
		return m.other
	}
	return m.main
}

func (m *term) modes() (n int) {
	for name, is := range m.on {
		if is {
			n += modeNames[name]
		}
	}
	return n
}

func (m *term) void() api.Style { return api.Style{Fg: -1, Bg: m.pen.Bg} }

func (m *term) index() {
	if m.y == m.bottom {
		m.grid().Up(m.top, m.bottom, 1, m.void(), !m.on["alt"])
	} else if m.y < m.rows-1 {
		m.y++
	}
}

func (m *term) upward() {
	if m.y == m.top {
		m.grid().Down(m.top, m.bottom, 1, m.void())
	} else if m.y > 0 {
		m.y--
	}
}

func clamp(n, least, most int) int {
	if n < least {
		return least
	}
	if n > most {
		return most
	}
	return n
}

func (m *term) place(x, y int) {
	m.x, m.y, m.wait = clamp(x, 0, m.cols-1), clamp(y, 0, m.rows-1), false
}

// line places with rows as ModeOrigin has them.
func (m *term) line(x, y int) {
	if m.on["origin"] {
		y = clamp(y+m.top, m.top, m.bottom)
	}
	m.place(x, y)
}

func (m *term) whole() { m.top, m.bottom = 0, m.rows-1 }

const drawn = "◆▒␉␌␍␊°±␤␋┘┐┌└┼⎺⎻─⎼⎽├┤┴┬│≤≥π≠£·"

func (m *term) print(told rune) {
	if w := cell.Width(told); w != 1 && w != 2 {
		return
	}
	r := told
	if m.sets[m.hand] == 'l' && told >= 96 && told <= 126 {
		r = []rune(drawn)[told-96]
	}
	w := cell.Width(r)
	if w > m.cols {
		return
	}
	if m.wait && m.on["wrap"] {
		m.grid().Wrap(m.y, true)
		m.x = 0
		m.index()
	}
	m.wait = false
	if m.x > m.cols-w {
		if m.on["wrap"] {
			m.grid().Wrap(m.y, true)
			m.x = 0
			m.index()
		} else {
			m.x = m.cols - w
		}
	}
	if m.on["insert"] {
		m.grid().Insert(m.x, m.y, w, m.void())
	}
	m.grid().Put(m.x, m.y, api.Cell{Rune: r, Width: w, Style: m.pen})
	if m.x+w < m.cols {
		m.x += w
	} else {
		m.x = m.cols - 1
		if m.on["wrap"] {
			m.wait = true
		}
	}
	m.again = told
}

func (m *term) tab() {
	for m.x < m.cols-1 {
		m.x++
		if m.stops[m.x] {
			return
		}
	}
}

func (m *term) backTab() {
	for m.x > 0 {
		m.x--
		if m.stops[m.x] {
			return
		}
	}
}

func (m *term) control(b byte) {
	switch b {
	case 7:
		m.bells++
	case 8:
		if m.x > 0 {
			m.x--
		}
	case 9:
		m.tab()
	case 10, 11, 12:
		m.index()
		if m.on["new"] {
			m.x = 0
		}
	case 13:
		m.x = 0
	case 14:
		m.hand = 1
	case 15:
		m.hand = 0
	}
	if b >= 8 && b <= 13 {
		m.wait = false
	}
}

func (m *term) esc(what string) {
	switch what {
	case "7":
		m.saved[m.on["alt"]] = m.is()
	case "8":
		m.become(m.saved[m.on["alt"]])
	case "D", "E", "M":
		m.wait = false
		if what == "E" {
			m.x = 0
		}
		if what == "M" {
			m.upward()
		} else {
			m.index()
		}
	case "H":
		m.stops[m.x] = true
	case "c":
		m.reset()
	case "=", ">":
		m.on["keypad"] = what == "="
	case "Z":
		m.reply += "\x1b[?62;c"
	case "(A", "(B":
		m.sets = "p" + m.sets[1:]
	case "(0":
		m.sets = "l" + m.sets[1:]
	case ")A", ")B":
		m.sets = m.sets[:1] + "p"
	case ")0":
		m.sets = m.sets[:1] + "l"
	case "#8":
		m.whole()
		m.place(0, 0)
		for i := range m.cols * m.rows {
			m.grid().Put(i%m.cols, i/m.cols, api.Cell{Rune: 'E', Width: 1, Style: api.Style{Fg: -1, Bg: -1}})
			m.grid().Wrap(i/m.cols, false)
		}
	}
}

// blankRows lays blanks over the rows of which over is true.
func (m *term) blankRows(over func(y int) bool) {
	for y := range m.rows {
		if over(y) {
			m.grid().Erase(0, y, m.cols, m.void())
			m.grid().Wrap(y, false)
		}
	}
}

// numbers is a sequence's parameters.
type numbers []int

func (l numbers) par(i, def int) int {
	if i >= len(l) || l[i] < 0 {
		return def
	}
	return min(l[i], 9999)
}

func (l numbers) one(i int) int {
	if l.par(i, 1) == 0 {
		return 1
	}
	return l.par(i, 1)
}

func (m *term) csi(what string, l numbers) {
	if strings.Contains("@ P X I Z K J", what) && len(what) == 1 {
		m.wait = false
	}
	m.csiCells(what, l.one(0), l.par(0, 0))
	m.csiPlaces(what, l.one(0), l)
	m.csiAnswers(what, l.par(0, 0))
	m.csiModes(what, l)
}

func (m *term) csiCells(what string, n, first int) {
	g := m.grid()
	switch what {
	case "@":
		g.Insert(m.x, m.y, n, m.void())
	case "P":
		g.Delete(m.x, m.y, n, m.void())
	case "X":
		g.Erase(m.x, m.y, n, m.void())
	case "K", "J":
		m.csiErase(what == "J", first)
	case "L", "M":
		if m.y < m.top || m.y > m.bottom {
			return
		}
		if what == "L" {
			g.Down(m.y, m.bottom, n, m.void())
		} else {
			g.Up(m.y, m.bottom, n, m.void(), false)
		}
		m.x, m.wait = 0, false
	case "S":
		g.Up(m.top, m.bottom, n, m.void(), !m.on["alt"])
	case "T":
		g.Down(m.top, m.bottom, n, m.void())
	case "b":
		for range n {
			if m.again != 0 {
				m.print(m.again)
			}
		}
	}
}

func (m *term) csiErase(rows bool, first int) {
	switch first {
	case 0:
		m.grid().Erase(m.x, m.y, m.cols-m.x, m.void())
		m.grid().Wrap(m.y, false)
	case 1:
		m.grid().Erase(0, m.y, m.x+1, m.void())
	case 2:
		m.blankRows(func(y int) bool { return y == m.y })
	case 3:
		if rows {
			m.main.Clear()
		}
	}
	if rows {
		m.blankRows(func(y int) bool { return first == 0 && y > m.y || first == 1 && y < m.y || first == 2 })
	}
}

func (m *term) csiPlaces(what string, n int, l numbers) {
	switch what {
	case "A", "F":
		y := m.y - n
		if m.y >= m.top && y < m.top {
			y = m.top
		}
		m.place(m.x, y)
		if what == "F" {
			m.x = 0
		}
	case "B", "e", "E":
		y := m.y + n
		if m.y <= m.bottom && y > m.bottom {
			y = m.bottom
		}
		m.place(m.x, y)
		if what == "E" {
			m.x = 0
		}
	case "C", "a":
		m.place(m.x+n, m.y)
	case "D":
		m.place(m.x-n, m.y)
	case "G", "`":
		m.place(n-1, m.y)
	case "d":
		m.line(m.x, n-1)
	case "H", "f":
		m.line(l.one(1)-1, n-1)
	case "I":
		for range n {
			m.tab()
		}
	case "Z":
		for range n {
			m.backTab()
		}
	case "s":
		m.esc("7")
	case "u":
		m.esc("8")
	}
}

func (m *term) csiAnswers(what string, first int) {
	y := m.y + 1
	if m.on["origin"] {
		y = max(m.y-m.top+1, 1)
	}
	switch {
	case what == "c" && first == 0:
		m.reply += "\x1b[?62;c"
	case what == ">c" && first == 0:
		m.reply += "\x1b[>0;10;0c"
	case what == "n" && first == 5:
		m.reply += "\x1b[0n"
	case what == "n" && first == 6:
		m.reply += fmt.Sprintf("\x1b[%d;%dR", y, m.x+1)
	}
}

func (m *term) csiModes(what string, l numbers) {
	switch what {
	case "g":
		switch l.par(0, 0) {
		case 0:
			delete(m.stops, m.x)
		case 3:
			m.stops = map[int]bool{}
		}
	case "h", "l":
		for _, p := range l {
			if name := map[int]string{4: "insert", 20: "new"}[p]; name != "" {
				m.on[name] = what == "h"
			}
		}
	case "?h", "?l":
		for _, p := range l {
			m.private(p, what == "?h")
		}
	case "!p":
		k := keep{pen: api.Style{Fg: -1, Bg: -1}, sets: "pp"}
		m.saved[m.on["alt"]] = k
		k.x, k.y = m.x, m.y
		m.become(k)
		m.whole()
		for _, name := range []string{"insert", "keys", "keypad"} {
			m.on[name] = false
		}
		m.on["cursor"], m.on["wrap"] = true, true
	case "m":
		m.paint(l)
	case "r":
		top, bottom := l.one(0), l.par(1, m.rows)
		if bottom == 0 || bottom > m.rows {
			bottom = m.rows
		}
		if top < bottom {
			m.top, m.bottom = top-1, bottom-1
			m.line(0, 0)
		}
	}
}

func (m *term) private(p int, on bool) {
	name := map[int]string{1: "keys", 6: "origin", 7: "wrap", 25: "cursor", 1000: "mouse", 2004: "bracket"}[p]
	if name != "" {
		m.on[name] = on
	}
	switch {
	case p == 6:
		m.csi("H", nil)
	case p == 7 && !on:
		m.wait = false
	case p == 1048 && on || p == 1049 && on:
		m.esc("7")
	}
	if p == 47 || p == 1047 || p == 1049 {
		if on != m.on["alt"] {
			m.on["alt"] = on
			m.other, _ = grid.New(m.cols, m.rows, 0)
			m.whole()
			m.wait = false
		}
	}
	if !on && (p == 1048 || p == 1049) {
		m.esc("8")
	}
}

func (m *term) paint(l []int) {
	var text []string // each number is a word
	for _, n := range l {
		text = append(text, fmt.Sprint(max(n, 0)))
	}
	if len(text) == 0 {
		text = []string{"0"}
	}
	for len(text) > 0 {
		var n, kind, a, b, c int
		fmt.Sscan(text[0], &n)
		text = text[1:]
		switch {
		case n == 38 || n == 48:
			got, _ := fmt.Sscan(strings.Join(text, " "), &kind, &a, &b, &c)
			col, took := 0, 0
			if kind == 5 && got >= 2 && a < 256 {
				col, took = a, 2
			}
			if kind == 2 && got >= 4 && a < 256 && b < 256 && c < 256 {
				col, took = 16777216+65536*a+256*b+c, 4
			}
			if took == 0 {
				return
			}
			if n == 38 {
				m.pen.Fg = col
			} else {
				m.pen.Bg = col
			}
			text = text[took:]
		default:
			m.paintOne(n)
		}
	}
}

func (m *term) paintOne(n int) {
	bit := map[int]int{1: 1, 2: 2, 3: 4, 4: 8, 5: 16, 7: 32, 8: 64, 9: 128}
	switch {
	case n == 0:
		m.pen = api.Style{Fg: -1, Bg: -1}
	case n <= 9:
		m.pen.Attr |= bit[n]
	case n == 22:
		m.pen.Attr = m.pen.Attr / 4 * 4
	case n >= 23 && n <= 29:
		m.pen.Attr &= 255 - bit[n-20]
	case n >= 30 && n <= 37:
		m.pen.Fg = n - 30
	case n >= 40 && n <= 47:
		m.pen.Bg = n - 40
	case n == 39:
		m.pen.Fg = -1
	case n == 49:
		m.pen.Bg = -1
	case n >= 90 && n <= 97:
		m.pen.Fg = n - 82
	case n >= 100 && n <= 107:
		m.pen.Bg = n - 92
	}
}

func (m *term) osc(text string) {
	if len(text) < 2 || text[1] != ';' || text[0] != '0' && text[0] != '2' {
		return
	}
	m.title = ""
	cols := 0
	for _, r := range cell.Runes(text[2:]) {
		w := cell.Width(r)
		if w < 1 {
			continue
		}
		if cols += w; cols > 64 {
			return
		}
		m.title += string(r)
	}
}

func (m *term) dcs(text string) {
	switch text {
	case "m":
		s := style.Sgr(style.Plain(), m.pen)
		if s == "" {
			s = "\x1b[0m"
		}
		m.reply += "\x1bP1$r" + s[2:] + "\x1b\\"
	case "r":
		m.reply += fmt.Sprintf("\x1bP1$r%d;%dr\x1b\\", m.top+1, m.bottom+1)
	default:
		m.reply += "\x1bP0$r\x1b\\"
	}
}

func (m *term) do(a api.Action) string {
	m.reply = ""
	switch a.Kind {
	case api.ActPrint:
		m.print(a.Rune)
	case api.ActControl:
		m.control(a.Byte)
	case api.ActEsc:
		m.esc(a.Inter + string([]byte{a.Byte}))
	case api.ActCsi:
		m.csi(a.Inter+string([]byte{a.Byte}), a.Params)
	case api.ActOsc:
		m.osc(a.Text)
	case api.ActDcs:
		if a.Inter == "$" && a.Byte == 'q' {
			m.dcs(a.Text)
		}
	}
	return m.reply
}

func (m *term) feed(b []byte) string {
	out := ""
	for i := range b {
		for _, a := range m.parser.Feed(b[i : i+1]) {
			out += m.do(a)
		}
	}
	return out
}

func (m *term) resize(cols, rows int) api.Errno {
	if cols < 1 || cols > 250 || rows < 1 || rows > 120 {
		return api.ErrArg
	}
	saved := map[bool]keep{}
	for other, k := range m.saved {
		k.x, k.y, k.wait = clamp(k.x, 0, cols-1), clamp(k.y, 0, rows-1), false
		saved[other] = k
	}
	if m.on["alt"] {
		k := saved[false]
		p, _ := m.main.Resize(cols, rows, api.Pos{X: m.saved[false].x, Y: m.saved[false].y}, true)
		k.x, k.y = p.X, p.Y
		saved[false] = k
		p, _ = m.other.Resize(cols, rows, api.Pos{X: m.x, Y: m.y}, false)
		m.x, m.y = p.X, p.Y
	} else {
		p, _ := m.main.Resize(cols, rows, api.Pos{X: m.x, Y: m.y}, true)
		m.x, m.y = p.X, p.Y
	}
	m.saved = saved
	for x := cols; x < 250; x++ {
		delete(m.stops, x)
	}
	for x := m.cols; x < cols; x++ {
		if x%8 == 0 {
			m.stops[x] = true
		}
	}
	m.cols, m.rows, m.wait = cols, rows, false
	m.whole()
	return api.OK
}

// otherwise is what a screen has that the term has not; empty: nothing.
func (m *term) otherwise(s *Screen) string {
	var l []string
	differ := func(what string, got, want any) {
		if g, w := fmt.Sprint(got), fmt.Sprint(want); g != w {
			l = append(l, fmt.Sprintf("%s: %s, must be %s", what, g, w))
		}
	}
	v := s.View()
	differ("cursor", v.Cursor, api.Cursor{X: m.x, Y: m.y, Shown: m.on["cursor"], Wait: m.wait})
	differ("modes", v.Modes, m.modes())
	differ("title", v.Title, m.title)
	var rows []string
	for y := range m.rows {
		rows = append(rows, m.grid().Text(y))
		if y < len(v.Rows) && !slices.Equal(v.Rows[y], m.grid().Line(y)) {
			differ("row", v.Rows[y], m.grid().Line(y))
		}
	}
	differ("count of rows", len(v.Rows), m.rows)
	differ("rows", s.Rows(), rows)
	differ("style", s.Style(), m.pen)
	differ("bells", s.Bells(), m.bells)
	top, bottom := s.Region()
	differ("region", []int{top, bottom}, []int{m.top, m.bottom})
	if !grid.Same(s.Grid(), m.grid()) {
		differ("grid", texts(s.Grid()), texts(m.grid()))
		differ("grid's wrapped rows, cells or limit", false, true)
	}
	if !grid.Same(s.main, m.main) {
		differ("main", texts(s.main), texts(m.main))
		differ("main's wrapped rows, cells or limit", false, true)
	}
	return strings.Join(l, "; ")
}

// texts is a grid's rows, the oldest first; a + at a row's end: it is wrapped.
func texts(g *grid.Grid) (l []string) {
	for y := -g.History(); y < g.Rows(); y++ {
		s := g.Text(y)
		if g.Wrapped(y) {
			s += "+"
		}
		l = append(l, s)
	}
	return l
}

// pair is a screen, and what it must be.
type pair struct {
	s    *Screen
	m    *term
	done []string
}

func newPair(cols, rows, history int) *pair {
	s, _ := New(cols, rows, history)
	return &pair{s: s, m: newTerm(cols, rows, history), done: []string{fmt.Sprintf("New(%d, %d, %d)", cols, rows, history)}}
}

func (p *pair) check(t *testing.T, what string, got, want any) {
	t.Helper()
	p.done = append(p.done, what)
	bad := p.m.otherwise(p.s)
	if g, w := fmt.Sprint(got), fmt.Sprint(want); g != w {
		bad += fmt.Sprintf("; answers %q, must be %q", g, w)
	}
	if bad == "" {
		bad = unsound(p.s)
	}
	if bad != "" {
		t.Fatalf("%s: %s", strings.Join(p.done, ", "), bad)
	}
}

func (p *pair) feed(t *testing.T, text string) {
	t.Helper()
	p.check(t, fmt.Sprintf("%q", text), string(p.s.Feed([]byte(text))), p.m.feed([]byte(text)))
}

func (p *pair) do(t *testing.T, a api.Action) {
	t.Helper()
	p.check(t, fmt.Sprintf("%+v", a), string(p.s.Do(a)), p.m.do(a))
}

func (p *pair) resize(t *testing.T, cols, rows int) {
	t.Helper()
	p.check(t, fmt.Sprintf("Resize(%d, %d)", cols, rows), p.s.Resize(cols, rows), p.m.resize(cols, rows))
}

// unsound is what N6.9 forbids.
func unsound(s *Screen) string {
	g := s.Grid()
	v := s.View()
	top, bottom := s.Region()
	c := v.Cursor
	switch {
	case c.X < 0 || c.X >= g.Cols() || c.Y < 0 || c.Y >= g.Rows():
		return "the cursor is off the screen"
	case c.Wait && c.X != g.Cols()-1:
		return "Wait elsewhere than in the last column"
	case g.Rows() == 1 && (top != 0 || bottom != 0), g.Rows() > 1 && (top < 0 || top >= bottom || bottom >= g.Rows()):
		return "a wrong region"
	case s.main.History() > s.main.Limit():
		return "too much has scrolled off"
	case !style.Right(s.Style()):
		return "a wrong pen"
	}
	for _, g := range []*grid.Grid{g, s.main} {
		for y := -g.History(); y < g.Rows(); y++ {
			l := g.Line(y)
			for x, c := range l {
				if c.Width == 2 && (x == len(l)-1 || l[x+1].Width != 0) || c.Width == 0 && (x == 0 || l[x-1].Width != 2) {
					return "half a wide cell"
				}
			}
		}
	}
	return ""
}

// Finals of each kind of action, those that mean something and others.
const (
	escFinals = "78DEMHc=>Z\\0AB"
	csiFinals = "@PXABeCaDEFG`dHfIZKJLMSTbcnghlmrsupqNt~"
)

var (
	someRunes  = []rune{'a', 'b', 'Z', ' ', '~', '`', '_', 'q', 0x7f, 0xe9, 0x4e2d, 0x1f600, 0x301, 0x85, 0xfffd, 0xff21}
	someParams = []int{-1, 0, 1, 2, 3, 4, 5, 6, 7, 8, 20, 25, 9999}
	modeParams = []int{-1, 0, 1, 4, 6, 7, 20, 25, 47, 1047, 1048, 1049, 1000, 2004, 6, 1049}
	lookParams = []int{-1, 0, 1, 2, 3, 4, 5, 6, 7, 8, 9, 10, 21, 22, 23, 24, 25, 26, 27, 28, 29, 30, 37, 38, 39, 40, 47, 48, 49, 50, 90, 97, 98, 100, 107, 108, 255, 256, 38, 5, 2, 48}
)

func oneOf[T any](r *rand.Rand, l []T) T { return l[r.Intn(len(l))] }

func someOf(r *rand.Rand, l []int, most int) (out []int) {
	for range r.Intn(most + 1) {
		out = append(out, oneOf(r, l))
	}
	return out
}

// anAction is one that may mean something; wild: also of what no parser tells.
func anAction(r *rand.Rand, wild bool) api.Action {
	a := api.Action{}
	if wild && r.Intn(3) == 0 {
		a = api.Action{Kind: r.Intn(9) - 1, Rune: oneOf(r, someRunes), Byte: oneOf(r, []byte(csiFinals+escFinals)), Params: someOf(r, []int{-7, -1, 10000, 1 << 40, 3}, 3), Inter: oneOf(r, []string{"", "", "?", "(", "??", "?!"}), Text: oneOf(r, []string{"0;x", "m", "r", "2;"})}
		if a.Kind == api.ActCsi || a.Kind == api.ActPrint {
			return a
		}
	}
	switch k := r.Intn(20); {
	case k < 7:
		a.Kind, a.Rune = api.ActPrint, oneOf(r, someRunes)
	case k < 10:
		a.Kind, a.Byte = api.ActControl, byte(r.Intn(17))
	case k < 12:
		a.Kind, a.Inter, a.Byte = api.ActEsc, oneOf(r, []string{"", "", "", "(", ")", "#"}), oneOf(r, []byte(escFinals))
		if a.Byte == 'c' && r.Intn(4) > 0 {
			a.Byte = '8'
		}
	case k < 16:
		a.Kind, a.Byte, a.Params, a.Inter = api.ActCsi, oneOf(r, []byte(csiFinals)), someOf(r, someParams, 3), ""
	case k < 17:
		a.Kind, a.Byte, a.Params, a.Inter = api.ActCsi, 'm', someOf(r, lookParams, 7), ""
	case k < 19:
		a.Kind, a.Byte, a.Params, a.Inter = api.ActCsi, oneOf(r, []byte("hhlcp")), someOf(r, modeParams, 2), oneOf(r, []string{"?", "?", "?", "?", "!", ">", "", "$"})
	default:
		a.Text = oneOf(r, []string{"m", "r", "x", "", "0;t", "2;" + strings.Repeat("\u4e2da", 30), "1;no", "0"})
		a.Kind = api.ActOsc
		if r.Intn(2) == 0 {
			a.Kind, a.Inter, a.Byte = api.ActDcs, oneOf(r, []string{"$", "$", ""}), oneOf(r, []byte("qqp"))
		}
	}
	return a
}

var someSizes = [][2]int{{1, 1}, {1, 4}, {2, 1}, {2, 2}, {4, 2}, {5, 5}, {9, 4}, {17, 6}, {33, 3}}

// Any actions, one behind the other, in some sizes, with Resizes, Resets and Clears among them (N6.1 to N6.9).
func TestAnyActions(t *testing.T) {
	r := rand.New(rand.NewSource(6))
	for i := range 6000 {
		size := oneOf(r, someSizes)
		p := newPair(size[0], size[1], oneOf(r, []int{0, 1, 3, 10}))
		for range 1 + r.Intn(60) {
			switch r.Intn(40) {
			case 0, 1:
				size := oneOf(r, someSizes)
				p.resize(t, size[0]+r.Intn(3), size[1]+r.Intn(3))
			case 2:
				p.resize(t, oneOf(r, []int{0, -1, 251, 4}), oneOf(r, []int{0, -1, 121, 1 << 40}))
			case 3:
				p.s.Clear()
				p.m.main.Clear()
				p.check(t, "Clear()", "", "")
			case 4:
				if r.Intn(8) == 0 {
					p.s.Reset()
					p.m.reset()
					p.check(t, "Reset()", "", "")
				}
			default:
				p.do(t, anAction(r, i%2 == 0))
			}
		}
	}
}

// Any bytes, in any pieces (N6.1, N6.9).
func TestAnyBytesInAnyPieces(t *testing.T) {
	r := rand.New(rand.NewSource(66))
	for range 3000 {
		size := oneOf(r, someSizes)
		p := newPair(size[0], size[1], 5)
		whole, _ := New(size[0], size[1], 5)
		var text, answers []byte
		for range 1 + r.Intn(20) {
			var b []byte
			for range 1 + r.Intn(4) {
				b = append(b, vtparse.Print([]api.Action{anAction(r, false)})...)
			}
			if r.Intn(5) == 0 {
				b = append(b, byte(r.Intn(256)))
			}
			if r.Intn(5) == 0 {
				b = b[:r.Intn(len(b)+1)]
			}
			text = append(text, b...)
			answers = append(answers, p.m.feed(b)...)
		}
		want := string(answers)
		got := string(whole.Feed(text))
		pieces := ""
		for len(text) > 0 {
			n := 1 + r.Intn(min(len(text), 7))
			pieces += string(p.s.Feed(text[:n]))
			text = text[n:]
		}
		p.check(t, "in pieces", pieces, want)
		p.s = whole
		p.check(t, "in one piece", got, want)
	}
}

func FuzzFeed(f *testing.F) {
	f.Add("ab\x1b[2;3Hc", "\x1b[?1049hx\x1b[6n", 4, 2)
	f.Fuzz(func(t *testing.T, a, b string, cols, rows int) {
		p := newPair(20, 5, 3)
		p.feed(t, a)
		p.resize(t, cols, rows)
		p.feed(t, b)
		p.resize(t, rows, cols)
		p.feed(t, a)
	})
}
