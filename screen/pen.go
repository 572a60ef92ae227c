package screen

import (
	"strings"

	"mullion/api"
	"mullion/style"
)

// Numbers that more than one step speaks of.
const (
	neitherBoldNorDim = 22
	turnedOff         = 20 // ahead of an attribute's number
	fgFirst           = 30
	bgFirst           = 40
	mixedColour       = 8 // behind fgFirst or bgFirst: the colour is told by numbers behind
	brightFirst       = 60
	bright            = 8 // the palette's first bright colour
)

// attributes are those of the numbers 0 to 9; 0: none.
var attributes = [10]int{
	1: api.Bold,
	2: api.Dim,
	3: api.Italic,
	4: api.Under,
	5: api.Blink,
	7: api.Reverse,
	8: api.Hidden,
	9: api.Strike,
}

// turnPen turns the pen to what the sequence's numbers say.
func (d *doing) turnPen() {
	for l := d.penCodes(); len(l) > 0; {
		n := 1
		switch l[0] {
		case fgFirst + mixedColour:
			d.pen.Fg, n = mixed(l, d.pen.Fg)
		case bgFirst + mixedColour:
			d.pen.Bg, n = mixed(l, d.pen.Bg)
		default:
			d.pen = turned(d.pen, l[0])
		}
		l = l[n:]
	}
}

// penCodes is the sequence's numbers; without any 0.
func (d *doing) penCodes() []int {
	out := make([]int, max(len(d.Params), 1))
	for i := range out {
		out[i] = d.param(i, 0)
	}
	return out
}

// mixed is the colour that numbers behind the first one say, and how many are taken: all, if they say none; the colour stays then.
func mixed(l []int, was int) (int, int) {
	switch {
	case len(l) >= 3 && l[1] == 5 && areBytes(l[2:3]):
		return l[2], 3
	case len(l) >= 5 && l[1] == 2 && areBytes(l[2:5]):
		return api.RGB + l[2]<<16 + l[3]<<8 + l[4], 5
	}
	return was, len(l)
}

func areBytes(l []int) bool {
	for _, n := range l {
		if n > 255 {
			return false
		}
	}
	return true
}

// turned is a style turned to what a number says that stands alone.
func turned(s api.Style, code int) api.Style {
	if c, ok := colour(code - fgFirst); ok {
		s.Fg = c
	}
	if c, ok := colour(code - bgFirst); ok {
		s.Bg = c
	}
	switch {
	case code == 0:
		return style.Plain()
	case code < len(attributes):
		s.Attr |= attributes[code]
	case code == neitherBoldNorDim:
		s.Attr &^= api.Bold | api.Dim
	case neitherBoldNorDim < code && code < fgFirst:
		s.Attr &^= attributes[code-turnedOff]
	}
	return s
}

// colour is the one of a number, less the first one of its kind.
func colour(n int) (int, bool) {
	switch {
	case 0 <= n && n < bright:
		return n, true
	case n == 9:
		return api.Default, true
	case brightFirst <= n && n < brightFirst+bright:
		return n - brightFirst + bright, true
	}
	return 0, false
}

// penNumbers is what turns a plain pen to that one.
func penNumbers(pen api.Style) string {
	if pen == style.Plain() {
		return plainNumber
	}
	numbers := strings.TrimPrefix(style.Sgr(style.Plain(), pen), csiStart)
	return strings.TrimSuffix(numbers, "m")
}
