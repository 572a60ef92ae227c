package screen

import (
	"mullion/api"
	"mullion/grid"
	"mullion/style"
)

// state is what can be saved, and brought back.
type state struct {
	at      api.Pos
	wait    bool // a rune was put into the last column: the next one begins a new row
	pen     api.Style
	origin  bool    // ModeOrigin
	lines   [2]bool // does the first, the second charset have lines for small letters?
	charset int     // which of both is at hand
}

func newState() state { return state{pen: style.Plain()} }

// place goes to the place on the grid that is nearest to p.
func (s *state) place(p api.Pos, g *grid.Grid) {
	s.at.X = max(min(p.X, g.Cols()-1), 0)
	s.at.Y = max(min(p.Y, g.Rows()-1), 0)
	s.wait = false
}

// goTo goes to a column and a row.
func (s *Screen) goTo(x, y int) { s.place(api.Pos{X: x, Y: y}, s.main) }

// goToLine is goTo, but that with ModeOrigin rows count from the region's top on, and are in it.
func (s *Screen) goToLine(x, y int) {
	if s.origin {
		y = min(s.top+y, s.bottom)
	}
	s.goTo(x, y)
}

// index goes a row down; at the region's end that is scrolled.
func (s *Screen) index() {
	switch {
	case s.at.Y == s.bottom:
		s.scrollUp(1)
	case s.at.Y < s.main.Rows()-1:
		s.at.Y++
	}
}

// reverse goes a row up, likewise.
func (s *Screen) reverse() {
	switch {
	case s.at.Y == s.top:
		s.scrollDown(1)
	case s.at.Y > 0:
		s.at.Y--
	}
}

func (s *Screen) scrollUp(n int) {
	s.shown().Up(s.top, s.bottom, n, s.blank(), s.other == nil)
}

func (s *Screen) scrollDown(n int) { s.shown().Down(s.top, s.bottom, n, s.blank()) }

// scrollAll makes all rows the region.
func (s *Screen) scrollAll() { s.top, s.bottom = 0, s.main.Rows()-1 }

// blank is how blanks look that the pen makes.
func (s *Screen) blank() api.Style { return api.Style{Fg: api.Default, Bg: s.pen.Bg} }

// savedHere is what was saved of the screen that is shown.
func (s *Screen) savedHere() *state {
	if s.other != nil {
		return &s.saved[ofOther]
	}
	return &s.saved[ofMain]
}

func (s *Screen) save() { *s.savedHere() = s.state }

func (s *Screen) restore() { s.state = *s.savedHere() }
