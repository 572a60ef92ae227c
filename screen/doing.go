package screen

import (
	"strconv"
	"strings"

	"mullion/api"
	"mullion/cell"
	"mullion/style"
)

const (
	esc         = "\x1b"
	csiStart    = esc + "["
	stringEnd   = esc + "\\"
	valid       = esc + "P1$r"
	invalid     = esc + "P0$r"
	whichItIs   = csiStart + "?62;c"
	whichItIs2  = csiStart + ">0;10;0c"
	isReady     = csiStart + "0n"
	plainNumber = "0"
)

// doing is one Do: its action, and what is answered.
type doing struct {
	*Screen
	api.Action
	answer []byte
}

func (d *doing) tell(s string) { d.answer = append(d.answer, s...) }

// param is a parameter, or what it is by default.
func (d *doing) param(i, byDefault int) int {
	if i >= len(d.Params) || d.Params[i] < 0 {
		return byDefault
	}
	return min(d.Params[i], api.MaxParam)
}

// count is the first parameter, where it tells how often, or how far.
func (d *doing) count() int { return d.ordinal(0) }

// ordinal is a parameter that counts from 1 on.
func (d *doing) ordinal(i int) int { return max(d.param(i, 1), 1) }

func (d *doing) escape() {
	switch d.Inter {
	case "":
		d.escapeAlone()
	case "(":
		d.design(0)
	case ")":
		d.design(1)
	case "#":
		if d.Byte == '8' {
			d.align()
		}
	}
}

func (d *doing) escapeAlone() {
	switch d.Byte {
	case '7':
		d.save()
	case '8':
		d.restore()
	case 'D':
		d.wait = false
		d.index()
	case 'E':
		d.wait = false
		d.at.X = 0
		d.index()
	case 'M':
		d.wait = false
		d.reverse()
	case 'H':
		d.tabs[d.at.X] = true
	case 'c':
		d.Reset()
	case '=':
		d.turn(api.ModeKeypad, true)
	case '>':
		d.turn(api.ModeKeypad, false)
	case 'Z':
		d.tell(whichItIs)
	}
}

// design says what a charset is.
func (d *doing) design(charset int) {
	switch d.Byte {
	case 'A', 'B':
		d.lines[charset] = false
	case '0':
		d.lines[charset] = true
	}
}

// align fills the screen with E.
func (d *doing) align() {
	d.scrollAll()
	d.goTo(0, 0)
	g := d.shown()
	for y := range g.Rows() {
		g.Wrap(y, false)
		for x := range g.Cols() {
			g.Put(x, y, api.Cell{Rune: 'E', Width: 1, Style: style.Plain()})
		}
	}
}

// name takes a title.
func (d *doing) name() {
	if !strings.HasPrefix(d.Text, "0;") && !strings.HasPrefix(d.Text, "2;") {
		return
	}
	var seen []rune
	for _, r := range cell.Runes(d.Text[2:]) {
		if cell.Width(r) > 0 {
			seen = append(seen, r)
		}
	}
	d.title = cell.Cut(string(seen), api.MaxName)
}

// request tells how something is set.
func (d *doing) request() {
	if d.Byte != 'q' || d.Inter != "$" {
		return
	}
	switch d.Text {
	case "m":
		d.tell(valid + penNumbers(d.pen) + "m")
	case "r":
		d.tell(valid + strconv.Itoa(d.top+1) + ";" + strconv.Itoa(d.bottom+1) + "r")
	default:
		d.tell(invalid)
	}
	d.tell(stringEnd)
}
