package grid

import (
	"math/rand"
	"strings"
	"testing"

	"mullion/api"
	"mullion/cell"
	"mullion/style"
)

// sheet is what a grid must be, kept another way: all rows in one list, each call making new ones of what the chapter says.
type sheet struct {
	cols, rows, limit int
	all               []strip // the oldest first; the last ones, as many as rows, are the screen
}

type strip struct {
	cells   []api.Cell
	wrapped bool
}

func newSheet(cols, rows, limit int) *sheet {
	s := &sheet{cols: cols, rows: rows, limit: limit}
	for range rows {
		s.all = append(s.all, strip{cells: blanks(cols, style.Plain())})
	}
	return s
}

func blanks(n int, s api.Style) (l []api.Cell) {
	for range n {
		l = append(l, api.Cell{Rune: ' ', Width: 1, Style: s})
	}
	return l
}

func join(lists ...[]api.Cell) (l []api.Cell) {
	for _, x := range lists {
		l = append(l, x...)
	}
	return l
}

func (s *sheet) history() int { return len(s.all) - s.rows }

// at is row y, nil if there is none.
func (s *sheet) at(y int) *strip {
	if y < -s.history() || y >= s.rows {
		return nil
	}
	return &s.all[s.history()+y]
}

func (s *sheet) onScreen(y int) bool { return y >= 0 && y < s.rows }

// split is the cells up to column x, and those from there on, a wide one that lies across made two blanks.
func split(l []api.Cell, x int) (left, right []api.Cell) {
	left, right = join(l[:x]), join(l[x:])
	if len(right) > 0 && right[0].Width == 0 && len(left) > 0 {
		left[x-1] = blanks(1, left[x-1].Style)[0]
		right[0] = blanks(1, right[0].Style)[0]
	}
	return left, right
}

func (s *sheet) put(x, y int, c api.Cell) {
	w := cell.Width(c.Rune)
	if w != 1 && w != 2 || c.Width != w || !style.Right(c.Style) || !s.onScreen(y) || x < 0 || x > s.cols-w {
		return
	}
	r := s.at(y)
	left, _ := split(r.cells, x)
	_, right := split(r.cells, x+w)
	mid := []api.Cell{c}
	if w == 2 {
		mid = append(mid, api.Cell{Style: c.Style})
	}
	r.cells = join(left, mid, right)
}

func (s *sheet) wrap(y int, is bool) {
	if s.onScreen(y) {
		s.at(y).wrapped = is
	}
}

// shift does Erase ('e'), Insert ('i') and Delete ('d').
func (s *sheet) shift(what byte, x, y, n int, st api.Style) {
	if !s.onScreen(y) || x < 0 || x >= s.cols || n < 1 || !style.Right(st) {
		return
	}
	if n > s.cols-x {
		n = s.cols - x
	}
	r := s.at(y)
	left, rest := split(r.cells, x)
	switch what {
	case 'e':
		_, right := split(rest, n)
		r.cells = join(left, blanks(n, st), right)
	case 'i':
		mid, _ := split(rest, len(rest)-n)
		r.cells = join(left, blanks(n, st), mid)
	case 'd':
		_, right := split(rest, n)
		r.cells = join(left, right, blanks(n, st))
	}
}

// scroll does Up, and Down (n more rows at the top).
func (s *sheet) scroll(up bool, top, bottom, n int, st api.Style, keep bool) {
	if top < 0 || bottom < top || bottom >= s.rows || n < 1 || !style.Right(st) {
		return
	}
	n = min(n, bottom-top+1)
	var fresh []strip
	for range n {
		fresh = append(fresh, strip{cells: blanks(s.cols, st)})
	}
	h := s.history()
	past, screen := s.all[:h], s.all[h:]
	above, region, below := screen[:top], screen[top:bottom+1], screen[bottom+1:]
	var next []strip
	next = append(next, past...)
	if up && keep && top == 0 {
		next = append(next, region[:n]...)
	}
	next = append(next, above...)
	if up {
		next = append(next, region[n:]...)
		next = append(next, fresh...)
	} else {
		next = append(next, fresh...)
		next = append(next, region[:len(region)-n]...)
	}
	s.all = append(next, below...)
	s.forget(s.limit)
}

// forget lets no more than n rows have scrolled off.
func (s *sheet) forget(n int) {
	for s.history() > n {
		s.all = s.all[1:]
	}
}

func (s *sheet) resize(cols, rows int, at api.Pos, reflow bool) (api.Pos, api.Errno) {
	if cols < 1 || cols > 250 || rows < 1 || rows > 120 {
		return api.Pos{}, api.ErrArg
	}
	at.X = max(0, min(at.X, s.cols-1))
	at.Y = max(0, min(at.Y, s.rows-1))
	if reflow {
		return s.reflow(cols, rows, at), api.OK
	}
	for i, r := range s.all {
		if cols < s.cols {
			r.cells, _ = split(r.cells, cols)
		} else {
			r.cells = join(r.cells, blanks(cols-s.cols, style.Plain()))
		}
		s.all[i] = strip{r.cells, r.wrapped && cols == s.cols}
	}
	h := s.history()
	for range rows - s.rows {
		s.all = append(s.all, strip{cells: blanks(cols, style.Plain())})
	}
	s.all = s.all[:h+rows]
	s.cols, s.rows = cols, rows
	return api.Pos{X: min(at.X, cols-1), Y: min(at.Y, rows-1)}, api.OK
}

// piece is a cell with its padding; place: 1 if the place is at the cell, 2 if at the padding.
type piece struct {
	cells []api.Cell
	place int
}

// stretch is a line, as pieces.
type stretch struct {
	pieces []piece
	open   bool // wrapped, and there is no next row
}

func (s *sheet) stretches(at api.Pos) (l []stretch) {
	now := stretch{}
	for i, r := range s.all {
		for x, c := range r.cells {
			if c.Width > 0 {
				now.pieces = append(now.pieces, piece{})
			}
			p := &now.pieces[len(now.pieces)-1]
			p.cells = append(p.cells, c)
			if i == s.history()+at.Y && x == at.X {
				p.place = len(p.cells)
			}
		}
		if !r.wrapped || i == len(s.all)-1 {
			now.open = r.wrapped
			l = append(l, now)
			now = stretch{}
		}
	}
	return l
}

func (p piece) idle() bool {
	return p.place == 0 && p.cells[0] == api.Cell{Rune: ' ', Width: 1, Style: api.Style{Fg: -1, Bg: -1}}
}

// reflow does G6, step by step.
func (s *sheet) reflow(cols, rows int, at api.Pos) api.Pos {
	var all []strip
	var place api.Pos
	for _, l := range s.stretches(at) {
		for n := len(l.pieces); n > 0 && l.pieces[n-1].idle(); n-- {
			l.pieces = l.pieces[:n-1]
		}
		now := []api.Cell{}
		for _, p := range l.pieces {
			if cols == 1 && len(p.cells) == 2 {
				p.cells = blanks(1, p.cells[0].Style)
				p.place = min(p.place, 1)
			}
			if len(now)+len(p.cells) > cols {
				all = append(all, strip{join(now, blanks(cols-len(now), style.Plain())), true})
				now = nil
			}
			if p.place > 0 {
				place = api.Pos{X: len(now) + p.place - 1, Y: len(all)}
			}
			now = append(now, p.cells...)
		}
		all = append(all, strip{join(now, blanks(cols-len(now), style.Plain())), l.open})
	}
	for len(all) > place.Y+1 && !all[len(all)-1].wrapped && bare(all[len(all)-1].cells) {
		all = all[:len(all)-1]
	}
	first := len(all) - rows
	if first < 0 {
		first = 0
	}
	if first > place.Y {
		first = place.Y
	}
	for len(all) < first+rows {
		all = append(all, strip{cells: blanks(cols, style.Plain())})
	}
	s.all = all[:first+rows]
	s.cols, s.rows = cols, rows
	s.forget(s.limit)
	return api.Pos{X: place.X, Y: place.Y - first}
}

func bare(l []api.Cell) bool {
	for _, c := range l {
		if c != blanks(1, style.Plain())[0] {
			return false
		}
	}
	return true
}

// text is what Text must be.
func (r strip) text() string {
	var l []rune
	for _, c := range r.cells {
		if c.Width > 0 {
			l = append(l, c.Rune)
		}
	}
	for len(l) > 0 && l[len(l)-1] == 32 {
		l = l[:len(l)-1]
	}
	return string(l)
}

// differs tells how a grid is not what it must be; empty if it is.
func (s *sheet) differs(g *Grid) string {
	if g.Cols() != s.cols || g.Rows() != s.rows || g.Limit() != s.limit || g.History() != s.history() {
		return "the numbers"
	}
	for y := -s.history(); y < s.rows; y++ {
		r := s.at(y)
		if g.Wrapped(y) != r.wrapped {
			return "Wrapped"
		}
		line := g.Line(y)
		if len(line) != s.cols {
			return "Line's length"
		}
		for x, c := range r.cells {
			if line[x] != c || g.Cell(x, y) != c {
				return "cells"
			}
		}
		if g.Text(y) != r.text() {
			return "Text"
		}
	}
	return ""
}

// unsound tells what of G8's first half a grid breaks; empty if nothing.
func unsound(g *Grid) string {
	if g.History() > g.Limit() {
		return "more has scrolled off than may"
	}
	for y := -g.History(); y < g.Rows(); y++ {
		l := g.Line(y)
		for x, c := range l {
			w := cell.Width(c.Rune)
			switch {
			case !style.Right(c.Style):
				return "a style that is not right"
			case c.Width == 0 && (x == 0 || l[x-1].Width != 2 || l[x-1].Style != c.Style || c.Rune != 0):
				return "a padding behind no wide cell"
			case c.Width == 2 && (x == len(l)-1 || l[x+1].Width != 0):
				return "a wide cell without a padding"
			case c.Width < 0 || c.Width > 2 || c.Width > 0 && c.Width != w:
				return "a wrong width"
			}
		}
	}
	return ""
}

// dump is a grid to be read by people.
func dump(g *Grid) string {
	var b strings.Builder
	for y := -g.History(); y < g.Rows(); y++ {
		if y == 0 {
			b.WriteString("--\n")
		}
		for _, c := range g.Line(y) {
			switch c.Width {
			case 0:
				b.WriteByte('_')
			default:
				b.WriteRune(c.Rune)
			}
		}
		if g.Wrapped(y) {
			b.WriteByte('+')
		}
		b.WriteByte('\n')
	}
	return b.String()
}

// pair is a grid and what it must be.
type pair struct {
	t *testing.T
	g *Grid
	s *sheet
	r *rand.Rand
}

func newPair(t *testing.T, r *rand.Rand, cols, rows, limit int) *pair {
	g, e := New(cols, rows, limit)
	if e != api.OK {
		t.Fatalf("New(%d, %d, %d): %d", cols, rows, limit, e)
	}
	return &pair{t, g, newSheet(cols, rows, limit), r}
}

var (
	someRunes  = []rune{'a', 'b', 'z', ' ', 0x4e2d, 0x1f600, 0xac00, 0xe9, 160, 0xfffd}
	wrongCells = []api.Cell{
		{}, {Rune: 'a'}, {Rune: 'a', Width: 2, Style: api.Style{Fg: -1, Bg: -1}}, {Rune: 0x4e2d, Width: 1, Style: api.Style{Fg: -1, Bg: -1}},
		{Rune: 0x301, Width: 0}, {Rune: 0x301, Width: 1}, {Rune: 7, Width: -1}, {Rune: 7, Width: 1}, {Rune: 127, Width: 1}, {Rune: 0, Width: 1},
		{Rune: -1, Width: -1}, {Rune: 'a', Width: -1}, {Rune: 'a', Width: 3}, {Rune: 0x110000, Width: 1}, {Rune: 'a', Width: 1, Style: api.Style{Fg: 256}},
		{Rune: 0x4e2d, Width: 2, Style: api.Style{Bg: -2}}, {Rune: 'a', Width: 1, Style: api.Style{Attr: 256}},
	}
	wrongLooks = []api.Style{{Fg: -2}, {Bg: 256}, {Attr: -1}, {Attr: 256}}
	someLooks  = []api.Style{{Fg: -1, Bg: -1}, {Fg: -1, Bg: -1}, {Fg: -1, Bg: 4}, {Fg: 1, Bg: -1, Attr: api.Bold}}
)

func (p *pair) look() api.Style {
	if p.r.Intn(12) == 0 {
		return wrongLooks[p.r.Intn(len(wrongLooks))]
	}
	return someLooks[p.r.Intn(len(someLooks))]
}

// near is a number of -1 to n, mostly of 0 to n - 1; rarely one far off.
func (p *pair) near(n int) int {
	if p.r.Intn(60) == 0 {
		far := []int{-1 << 63, 1<<63 - 1, -1 << 32, 1 << 32, -1000, 1000}
		return far[p.r.Intn(len(far))]
	}
	if p.r.Intn(8) == 0 {
		return p.r.Intn(n+3) - 1
	}
	return p.r.Intn(max(n, 1))
}

func (p *pair) cell() api.Cell {
	if p.r.Intn(12) == 0 {
		return wrongCells[p.r.Intn(len(wrongCells))]
	}
	c := someRunes[p.r.Intn(len(someRunes))]
	return api.Cell{Rune: c, Width: cell.Width(c), Style: someLooks[p.r.Intn(len(someLooks))]}
}

// step does something with both, and holds them against each other.
func (p *pair) step() {
	g, s := p.g, p.s
	x, y, n := p.near(s.cols), p.near(s.rows), 1+p.near(s.cols)
	look := p.look()
	what := ""
	switch k := p.r.Intn(24); {
	case k < 10:
		what = "Put"
		c := p.cell()
		g.Put(x, y, c)
		s.put(x, y, c)
	case k < 12:
		what = "Wrap"
		is := p.r.Intn(3) > 0
		g.Wrap(y, is)
		s.wrap(y, is)
	case k < 13:
		what = "Erase"
		g.Erase(x, y, n, look)
		s.shift('e', x, y, n, look)
	case k < 14:
		what = "Insert"
		g.Insert(x, y, n, look)
		s.shift('i', x, y, n, look)
	case k < 15:
		what = "Delete"
		g.Delete(x, y, n, look)
		s.shift('d', x, y, n, look)
	case k < 19:
		what = "Up"
		keep := p.r.Intn(4) > 0
		top, bottom, n := p.near(1+p.r.Intn(s.rows)), p.near(s.rows), 1+p.near(s.rows)
		g.Up(top, bottom, n, look, keep)
		s.scroll(true, top, bottom, n, look, keep)
	case k < 20:
		what = "Down"
		top, bottom, n := p.near(s.rows), p.near(s.rows), 1+p.near(s.rows)
		g.Down(top, bottom, n, look)
		s.scroll(false, top, bottom, n, look, false)
	case k < 21 && p.r.Intn(6) == 0:
		what = "Clear"
		g.Clear()
		s.forget(0)
	case k < 22:
		what = "Clone"
		was := g
		p.g = g.Clone()
		if !Same(was, p.g) || !Same(p.g, was) {
			p.t.Fatalf("not the same as its clone:\n%s", dump(was))
		}
	default:
		what = "Resize"
		p.resize(1+p.near(7), 1+p.near(6), api.Pos{X: x, Y: y}, k == 23)
	}
	p.check(what)
}

func (p *pair) resize(cols, rows int, at api.Pos, reflow bool) {
	was := dump(p.g)
	got, e := p.g.Resize(cols, rows, at, reflow)
	want, e2 := p.s.resize(cols, rows, at, reflow)
	if got != want || e != e2 {
		p.t.Fatalf("Resize(%d, %d, %v, %v): %v, %d; must be %v, %d, of\n%s", cols, rows, at, reflow, got, e, want, e2, was)
	}
}

func (p *pair) check(what string) {
	if d := p.s.differs(p.g); d != "" {
		p.t.Fatalf("%s: %s is otherwise:\n%s", what, d, dump(p.g))
	}
	if d := unsound(p.g); d != "" {
		p.t.Fatalf("%s: %s:\n%s", what, d, dump(p.g))
	}
}

// Any calls, one behind the other, in small grids: each against the chapter's words done another way (G1 to G8, P1).
func TestAnyCalls(t *testing.T) {
	r := rand.New(rand.NewSource(4))
	for range 3000 {
		p := newPair(t, r, 1+r.Intn(7), 1+r.Intn(5), r.Intn(7))
		for range 60 {
			p.step()
		}
	}
}

// Likewise in great ones, with rows that scroll off in their hundreds.
func TestAnyCallsGreat(t *testing.T) {
	r := rand.New(rand.NewSource(5))
	for _, limit := range []int{0, 1, 150, 2000} {
		p := newPair(t, r, 250, 120, limit)
		for range 40 {
			for x := range 250 {
				p.g.Put(x, x%120, api.Cell{Rune: 'a' + rune(x%26), Width: 1})
				p.s.put(x, x%120, api.Cell{Rune: 'a' + rune(x%26), Width: 1})
			}
			p.g.Up(0, 119, 77, style.Plain(), true)
			p.s.scroll(true, 0, 119, 77, style.Plain(), true)
		}
		p.check("Up")
		p.resize(r.Intn(100)+1, 60, api.Pos{X: 100, Y: 80}, true)
		p.check("Resize")
	}
}

func FuzzCalls(f *testing.F) {
	for seed := range int64(8) {
		f.Add(seed, uint8(seed), uint8(2*seed), uint8(seed*seed))
	}
	f.Fuzz(func(t *testing.T, seed int64, cols, rows, limit uint8) {
		p := newPair(t, rand.New(rand.NewSource(seed)), 1+int(cols)%9, 1+int(rows)%7, int(limit)%12)
		for range 80 {
			p.step()
		}
	})
}
