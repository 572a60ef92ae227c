package screen

import (
	"mullion/api"
	"mullion/cell"
)

// Controls that do something.
const (
	bell           = 7
	backspace      = 8
	tabulator      = 9
	lineFeed       = 10
	verticalTab    = 11
	formFeed       = 12
	carriageReturn = 13
	shiftOut       = 14
	shiftIn        = 15
)

// What the runes from firstLine on are in the charset of lines.
const firstLine = '`'

var lineRunes = [31]rune{
	'◆', '▒', '␉', '␌', '␍', '␊', '°', '±', '␤', '␋',
	'┘', '┐', '┌', '└', '┼', '⎺', '⎻', '─', '⎼', '⎽',
	'├', '┤', '┴', '┬', '│', '≤', '≥', 'π', '≠', '£',
	'·',
}

// print puts a rune, if it takes columns, and has room.
func (s *Screen) print(told rune) {
	if cell.Width(told) < 1 {
		return
	}
	r := s.inCharset(told)
	w := cell.Width(r)
	if w > s.main.Cols() {
		return
	}
	s.makeRoom(w)
	if s.modes&api.ModeInsert != 0 {
		s.shown().Insert(s.at.X, s.at.Y, w, s.blank())
	}
	s.shown().Put(s.at.X, s.at.Y, api.Cell{Rune: r, Width: w, Style: s.pen})
	s.goOn(w)
	s.last = told
}

// inCharset is what a rune is in the charset at hand.
func (s *Screen) inCharset(r rune) rune {
	i := int(r - firstLine)
	if s.lines[s.charset] && 0 <= i && i < len(lineRunes) {
		return lineRunes[i]
	}
	return r
}

// makeRoom goes to where so many columns are left.
func (s *Screen) makeRoom(w int) {
	wraps := s.modes&api.ModeWrap != 0
	if s.wait && wraps {
		s.wrap()
	}
	s.wait = false
	last := s.main.Cols() - w
	switch {
	case s.at.X <= last:
	case wraps:
		s.wrap()
	default:
		s.at.X = last
	}
}

// wrap goes on in the next row.
func (s *Screen) wrap() {
	s.shown().Wrap(s.at.Y, true)
	s.at.X = 0
	s.index()
}

// goOn goes behind what took w columns, or waits in the last one.
func (s *Screen) goOn(w int) {
	s.at.X += w
	if s.at.X >= s.main.Cols() {
		s.at.X = s.main.Cols() - 1
		s.wait = s.modes&api.ModeWrap != 0
	}
}

func (d *doing) control() {
	if backspace <= d.Byte && d.Byte <= carriageReturn {
		d.wait = false
	}
	switch d.Byte {
	case bell:
		d.bells++
	case backspace:
		d.at.X = max(d.at.X-1, 0)
	case tabulator:
		d.tab()
	case lineFeed, verticalTab, formFeed:
		d.index()
		if d.modes&api.ModeNew != 0 {
			d.at.X = 0
		}
	case carriageReturn:
		d.at.X = 0
	case shiftOut:
		d.charset = 1
	case shiftIn:
		d.charset = 0
	}
}
