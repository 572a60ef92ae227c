package grid

import (
	"slices"

	"mullion/api"
	"mullion/style"
)

// Resize makes another size: reflowed, or cut; where a place lies then.
func (g *Grid) Resize(cols, rows int, at api.Pos, reflow bool) (api.Pos, api.Errno) {
	if !isSize(cols, rows) {
		return api.Pos{}, api.ErrArg
	}
	at.X = within(at.X, g.cols)
	at.Y = within(at.Y, len(g.screen))
	if reflow {
		return g.reflow(cols, rows, at), api.OK
	}
	return g.crop(cols, rows, at), api.OK
}

// within is the number of 0 to size - 1 that is nearest to n.
func within(n, size int) int { return max(min(n, size-1), 0) }

func (g *Grid) crop(cols, rows int, at api.Pos) api.Pos {
	if cols != g.cols {
		cropRows(g.past, cols)
		cropRows(g.screen, cols)
		g.cols = cols
	}
	g.screen = filled(g.screen, cols, rows)
	return api.Pos{X: min(at.X, cols-1), Y: min(at.Y, rows-1)}
}

func cropRows(rows []row, cols int) {
	for i, r := range rows {
		cut(r.cells, cols)
		rows[i] = blankRow(cols, style.Plain())
		copy(rows[i].cells, r.cells)
	}
}

func (g *Grid) reflow(cols, rows int, at api.Pos) api.Pos {
	f := flow{cols: cols}
	for _, l := range g.lines(at) {
		f.lay(l)
	}
	f.trim()
	first := min(max(len(f.rows)-rows, 0), f.place.Y)
	oldest := max(first-g.limit, 0)
	g.cols = cols
	g.past = slices.Clone(f.rows[oldest:first])
	g.screen = filled(f.rows[first:], cols, rows)
	return api.Pos{X: f.place.X, Y: f.place.Y - first}
}

// line is the cells of rows that go on in one another.
type line struct {
	cells   []api.Cell
	wrapped bool // the last row was: there was no next one
	place   int  // which cell the place is at; noPlace: it is elsewhere
}

const noPlace = -1

// lines is all rows as lines.
func (g *Grid) lines(at api.Pos) []line {
	var out []line
	goesOn := false
	for i, r := range slices.Concat(g.past, g.screen) {
		if !goesOn {
			out = append(out, line{place: noPlace})
		}
		l := &out[len(out)-1]
		if i == len(g.past)+at.Y {
			l.place = len(l.cells) + at.X
		}
		l.cells = append(l.cells, r.cells...)
		l.wrapped = r.wrapped
		goesOn = r.wrapped
	}
	return out
}

// used is how many cells are left without the plain blanks at the end; the place's stays.
func (l line) used() int {
	n := len(l.cells)
	for n > l.place+1 && l.cells[n-1] == blank(style.Plain()) {
		n--
	}
	return n
}

// flow lays lines anew, in rows of cols cells.
type flow struct {
	cols  int
	rows  []row
	next  int     // the column of the last row that the next cell comes to
	place api.Pos // where the place lies, row 0 being the first of all
}

func (f *flow) lay(l line) {
	f.begin()
	for i, c := range l.cells[:l.used()] {
		f.flowOn(c)
		if i == l.place {
			f.place = api.Pos{X: f.next - 1, Y: len(f.rows) - 1}
		}
	}
	f.last().wrapped = l.wrapped
}

// flowOn puts a line's next cell where it has room; in one column nothing wide has.
func (f *flow) flowOn(c api.Cell) {
	switch {
	case f.cols == 1 && isPadding(c):
		return
	case f.cols == 1 && c.Width == wideWidth:
		c = blank(c.Style)
	case f.next == f.cols-1 && c.Width == wideWidth:
		f.put(blank(style.Plain()))
	}
	f.put(c)
}

func (f *flow) put(c api.Cell) {
	if f.next == f.cols {
		f.last().wrapped = true
		f.begin()
	}
	f.last().cells[f.next] = c
	f.next++
}

func (f *flow) begin() {
	f.rows = append(f.rows, blankRow(f.cols, style.Plain()))
	f.next = 0
}

func (f *flow) last() *row { return &f.rows[len(f.rows)-1] }

// trim takes off blank rows at the end, but none that is not below the place.
func (f *flow) trim() {
	empty := blankRow(f.cols, style.Plain())
	for len(f.rows)-1 > f.place.Y && sameRow(*f.last(), empty) {
		f.rows = f.rows[:len(f.rows)-1]
	}
}
