package grid

import (
	"math"
	"slices"
	"strings"
	"testing"

	"mullion/api"
	"mullion/cell"
	"mullion/style"
)

var (
	plain = api.Style{Fg: -1, Bg: -1}
	red   = api.Style{Fg: 1, Bg: -1}
	blue  = api.Style{Fg: -1, Bg: 4, Attr: api.Bold}
	wrong = []api.Style{{Fg: -2}, {Fg: 256}, {Bg: -2, Fg: 1}, {Bg: 2 * api.RGB}, {Attr: -1}, {Attr: 256}, {Fg: math.MinInt}, {Attr: math.MaxInt}}
	far   = []int{math.MinInt, math.MinInt + 1, math.MinInt32, -1 << 32, -1000, 1000, 1 << 32, math.MaxInt32, math.MaxInt - 1, math.MaxInt}
)

func of(r rune, s api.Style) api.Cell {
	return api.Cell{Rune: r, Width: cell.Width(r), Style: s}
}

func write(g *Grid, x, y int, s string, st api.Style) {
	for _, r := range s {
		g.Put(x, y, of(r, st))
		x += cell.Width(r)
	}
}

// made is a grid of those rows in plain style: the last ones the screen, the others scrolled off; a + at a row's end: it is wrapped.
func made(t *testing.T, cols, rows, limit int, texts ...string) *Grid {
	t.Helper()
	g, e := New(cols, rows, limit)
	if e != api.OK {
		t.Fatalf("New(%d, %d, %d): %d", cols, rows, limit, e)
	}
	for i, s := range texts {
		y := min(i, rows-1)
		if i >= rows {
			g.Up(0, rows-1, 1, plain, true)
		}
		text, wrapped := strings.CutSuffix(s, "+")
		write(g, 0, y, text, plain)
		g.Wrap(y, wrapped)
	}
	return g
}

// shown is a grid's rows as dump tells them, without blanks at their ends; -- between what has scrolled off and the screen.
func shown(g *Grid) string {
	l := strings.Split(strings.TrimSuffix(dump(g), "\n"), "\n")
	for i, s := range l {
		text, wrapped := strings.CutSuffix(s, "+")
		if l[i] = strings.TrimRight(text, " "); wrapped {
			l[i] += "+"
		}
	}
	return strings.Join(l, "|")
}

func expect(t *testing.T, g *Grid, what, want string) {
	t.Helper()
	if s := shown(g); s != want {
		t.Errorf("%s: %q, must be %q", what, s, want)
	}
	if s := unsound(g); s != "" {
		t.Errorf("%s: %s", what, s)
	}
}

// looks is the styles of a row, a letter each.
func looks(g *Grid, y int) string {
	s := ""
	for _, c := range g.Line(y) {
		switch c.Style {
		case plain:
			s += "p"
		case red:
			s += "r"
		case blue:
			s += "b"
		default:
			s += "?"
		}
	}
	return s
}

// G1

func TestNew(t *testing.T) {
	for _, c := range [][3]int{{1, 1, 0}, {250, 120, 2000}, {80, 24, 100}, {1, 120, 1}, {250, 1, 1999}} {
		g, e := New(c[0], c[1], c[2])
		if e != api.OK || g == nil {
			t.Errorf("New(%v): %v, %d", c, g, e)
			continue
		}
		if g.Cols() != c[0] || g.Rows() != c[1] || g.Limit() != c[2] || g.History() != 0 {
			t.Errorf("New(%v): %d columns, %d rows, limit %d, %d scrolled off", c, g.Cols(), g.Rows(), g.Limit(), g.History())
		}
		for y := range c[1] {
			if !slices.Equal(g.Line(y), slices.Repeat([]api.Cell{{Rune: 32, Width: 1, Style: plain}}, c[0])) || g.Wrapped(y) || g.Text(y) != "" {
				t.Errorf("New(%v): row %d is %v, %v", c, y, g.Line(y), g.Wrapped(y))
			}
		}
	}
}

func TestNewOfWrong(t *testing.T) {
	l := [][3]int{{0, 1, 0}, {251, 1, 0}, {-1, 1, 0}, {1, 0, 0}, {1, 121, 0}, {1, -1, 0}, {1, 1, -1}, {1, 1, 2001}, {0, 0, -1}, {251, 121, 2001}}
	for _, n := range far {
		l = append(l, [3]int{n, 1, 0}, [3]int{1, n, 0})
		if n != 1000 {
			l = append(l, [3]int{1, 1, n})
		}
	}
	for _, c := range l {
		if g, e := New(c[0], c[1], c[2]); g != nil || e != api.ErrArg {
			t.Errorf("New(%v): %v, %d", c, g, e)
		}
	}
}

func TestReading(t *testing.T) {
	g := made(t, 4, 2, 5, "a b+", "x\u4e2d", "  c")
	if g.History() != 1 {
		t.Fatalf("%d have scrolled off", g.History())
	}
	for y, want := range map[int]string{-1: "a b", 0: "x\u4e2d", 1: "  c", -2: "", 2: "", math.MinInt: "", math.MaxInt: ""} {
		if s := g.Text(y); s != want {
			t.Errorf("Text(%d): %q", y, s)
		}
		if g.Wrapped(y) != (y == -1) {
			t.Errorf("Wrapped(%d): %v", y, g.Wrapped(y))
		}
	}
	if l := g.Line(0); !slices.Equal(l, []api.Cell{of('x', plain), of(0x4e2d, plain), {Style: plain}, of(' ', plain)}) {
		t.Errorf("Line(0): %v", l)
	}
	for _, y := range append([]int{-2, 2}, far...) {
		if l := g.Line(y); len(l) != 0 {
			t.Errorf("Line(%d): %v", y, l)
		}
		if c := g.Cell(0, y); c != (api.Cell{}) {
			t.Errorf("Cell(0, %d): %v", y, c)
		}
	}
	for _, x := range append([]int{-1, 4}, far...) {
		for y := -1; y < 2; y++ {
			if c := g.Cell(x, y); c != (api.Cell{}) {
				t.Errorf("Cell(%d, %d): %v", x, y, c)
			}
		}
	}
	if g.Cell(0, -1) != of('a', plain) || g.Cell(2, 0) != (api.Cell{Style: plain}) || g.Cell(3, 1) != of(' ', plain) {
		t.Errorf("cells: %v, %v, %v", g.Cell(0, -1), g.Cell(2, 0), g.Cell(3, 1))
	}
}

func TestTextKeepsAllButBlanksAtTheEnd(t *testing.T) {
	g := made(t, 6, 1, 0)
	write(g, 0, 0, " a\u4e2d\u00a0 ", blue)
	if s := g.Text(0); s != " a\u4e2d\u00a0" {
		t.Errorf("%q", s)
	}
	write(g, 0, 0, "      ", blue)
	if s := g.Text(0); s != "" {
		t.Errorf("%q of blanks that are not plain", s)
	}
	g.Put(0, 0, of(0xd800, plain))
	if s := g.Text(0); s != "\ufffd" {
		t.Errorf("%q of a rune that UTF-8 has not", s)
	}
}

func TestWrap(t *testing.T) {
	g := made(t, 2, 2, 3, "a+", "b", "c")
	g.Wrap(0, true)
	g.Wrap(1, true)
	expect(t, g, "both", "a+|--|b+|c+")
	g.Wrap(0, false)
	expect(t, g, "one off", "a+|--|b|c+")
	for _, y := range append([]int{-1, -2, 2}, far...) {
		g.Wrap(y, false)
		g.Wrap(y, y < -1)
	}
	expect(t, g, "no such rows", "a+|--|b|c+")
}

func TestWrapOfWhatHasScrolledOff(t *testing.T) {
	g := made(t, 2, 1, 3, "a", "b")
	g.Wrap(-1, true)
	expect(t, g, "Wrap(-1, true)", "a|--|b")
}

// G2

func TestPut(t *testing.T) {
	const wide = '\u4e2d'
	for _, c := range []struct {
		was         string
		x           int
		r           rune
		want, looks string
	}{
		{"", 0, 'a', "a", "rpppp"},
		{"", 4, 'a', "    a", "ppppr"},
		{"", 0, wide, "\u4e2d_", "rrppp"},
		{"", 3, wide, "   \u4e2d_", "ppprr"},
		{"\u4e2d", 0, 'a', "a", "rpppp"},
		{"\u4e2d", 1, 'a', " a", "prppp"},
		{"\u4e2db", 0, wide, "\u4e2d_b", "rrppp"},
		{"\u4e2db", 1, wide, " \u4e2d_", "prrpp"},
		{"a\u4e2d\u4e2d", 2, wide, "a \u4e2d_", "pprrp"},
		{"a\u4e2db", 0, wide, "\u4e2d_ b", "rrppp"},
		{"\u4e2d\u4e2d", 1, 'a', " a\u4e2d_", "prppp"},
		{"\u4e2d\u4e2d", 2, 'a', "\u4e2d_a", "pprpp"},
		{"abcde", 2, 0xd7ff, "ab\ud7ffde", "pprpp"},
	} {
		g := made(t, 5, 1, 0, c.was)
		g.Put(c.x, 0, of(c.r, red))
		expect(t, g, c.was+" and "+string(c.r), "--|"+c.want)
		if l := looks(g, 0); l != c.looks {
			t.Errorf("%q, %c at %d: looks %s, must be %s", c.was, c.r, c.x, l, c.looks)
		}
	}
}

func TestPutLeavesBlanksOfTheirStyle(t *testing.T) {
	g := made(t, 4, 1, 0)
	write(g, 0, 0, "\u4e2d\u4e2d", blue)
	g.Put(1, 0, of(0x4e2d, red))
	expect(t, g, "between two", "--| \u4e2d_")
	if l := looks(g, 0); l != "brrb" {
		t.Errorf("looks %s", l)
	}
	g.Wrap(0, true)
	g.Put(0, 0, of('a', plain))
	g.Put(3, 0, of('b', plain))
	expect(t, g, "a wrapped row", "--|a\u4e2d_b+")
}

func TestPutOfWhatMayNotBe(t *testing.T) {
	g := made(t, 3, 2, 2, "k+", "\u4e2d", "b")
	want := g.Clone()
	for _, c := range wrongCells {
		g.Put(0, 0, c)
	}
	for _, s := range wrong {
		g.Put(0, 0, of('x', s))
		g.Put(0, 0, of(0x4e2d, s))
	}
	for _, n := range append([]int{-1, -2, 3}, far...) {
		g.Put(n, 0, of('x', red))
		g.Put(0, n-1, of('x', red))
		g.Put(n, n, of('x', red))
		g.Put(n-1, 1, of(0x4e2d, red))
	}
	g.Put(0, 2, of('x', red))
	if !Same(g, want) {
		t.Errorf("something is put:\n%s", dump(g))
	}
	g = made(t, 1, 1, 0)
	g.Put(0, 0, of(0x4e2d, red))
	expect(t, g, "a wide one in one column", "--|")
}

// G3

// shift is what a call of x, n and red blanks makes of a row of five columns, and of its looks.
type shift struct {
	was         string
	x, n        int
	want, looks string
}

func checkShifts(t *testing.T, do func(g *Grid, x, n int), l []shift) {
	t.Helper()
	for _, c := range l {
		g := made(t, 5, 2, 2, "k+", c.was, "z")
		do(g, c.x, c.n)
		expect(t, g, c.was, "k+|--|"+c.want+"|z")
		if l := looks(g, 0); l != c.looks {
			t.Errorf("%q, %d, %d: looks %s, must be %s", c.was, c.x, c.n, l, c.looks)
		}
	}
}

func TestErase(t *testing.T) {
	checkShifts(t, func(g *Grid, x, n int) { g.Erase(x, 0, n, red) }, []shift{
		{"abcde", 1, 2, "a  de", "prrpp"},
		{"abcde", 0, 5, "", "rrrrr"},
		{"abcde", 4, 1, "abcd", "ppppr"},
		{"abcde", 3, 9, "abc", "ppprr"},
		{"abcde", 0, math.MaxInt, "", "rrrrr"},
		{"abcde", 4, math.MaxInt, "abcd", "ppppr"},
		{"abcde+", 3, 2, "abc+", "ppprr"},
		{"\u4e2dcde", 1, 1, "  cde", "prppp"},
		{"\u4e2dcde", 0, 1, "  cde", "rpppp"},
		{"a\u4e2d\u4e2d", 2, 2, "a", "pprrp"},
		{"a\u4e2d\u4e2d", 3, 1, "a\u4e2d_", "ppprp"},
		{"a\u4e2d\u4e2d", 1, 2, "a  \u4e2d_", "prrpp"},
	})
}

func TestInsert(t *testing.T) {
	checkShifts(t, func(g *Grid, x, n int) { g.Insert(x, 0, n, red) }, []shift{
		{"abcde", 1, 2, "a  bc", "prrpp"},
		{"abcde", 0, 1, " abcd", "rpppp"},
		{"abcde", 0, 5, "", "rrrrr"},
		{"abcde", 4, 1, "abcd", "ppppr"},
		{"abcde", 3, 9, "abc", "ppprr"},
		{"abcde", 1, math.MaxInt, "a", "prrrr"},
		{"abcde+", 4, 1, "abcd+", "ppppr"},
		{"\u4e2dcde", 1, 1, "   cd", "prppp"},
		{"\u4e2dcde", 0, 2, "  \u4e2d_c", "rrppp"},
		{"abc\u4e2d", 0, 1, " abc", "rpppp"},
		{"abc\u4e2d", 0, 2, "  abc", "rrppp"},
		{"abc\u4e2d", 4, 1, "abc", "ppppr"},
		{"a\u4e2d\u4e2d", 2, 1, "a", "pprpp"},
	})
}

func TestDelete(t *testing.T) {
	checkShifts(t, func(g *Grid, x, n int) { g.Delete(x, 0, n, red) }, []shift{
		{"abcde", 1, 2, "ade", "ppprr"},
		{"abcde", 0, 1, "bcde", "ppppr"},
		{"abcde", 0, 5, "", "rrrrr"},
		{"abcde", 4, 1, "abcd", "ppppr"},
		{"abcde", 3, 9, "abc", "ppprr"},
		{"abcde", 1, math.MaxInt, "a", "prrrr"},
		{"abcde+", 3, 2, "abc+", "ppprr"},
		{"\u4e2dcde", 1, 1, " cde", "ppppr"},
		{"\u4e2dcde", 0, 1, " cde", "ppppr"},
		{"\u4e2dcde", 0, 2, "cde", "ppprr"},
		{"a\u4e2d\u4e2d", 2, 2, "a", "ppprr"},
		{"a\u4e2d\u4e2d", 0, 1, "\u4e2d_\u4e2d_", "ppppr"},
	})
}

func TestShiftsLeaveBlanksOfTheirStyle(t *testing.T) {
	for name, do := range map[string]func(g *Grid){
		"Erase":  func(g *Grid) { g.Erase(1, 0, 1, red) },
		"Insert": func(g *Grid) { g.Insert(1, 0, 1, red) },
		"Delete": func(g *Grid) { g.Delete(1, 0, 1, red) },
	} {
		g := made(t, 3, 1, 0)
		write(g, 0, 0, "\u4e2d", blue)
		do(g)
		want := map[string]string{"Erase": "brp", "Insert": "brb", "Delete": "bpr"}[name]
		if l := looks(g, 0); l != want || g.Text(0) != "" {
			t.Errorf("%s: looks %s, must be %s, text %q", name, l, want, g.Text(0))
		}
	}
}

func TestShiftsThatAreNone(t *testing.T) {
	g := made(t, 3, 2, 2, "k+", "\u4e2da", "b")
	want := g.Clone()
	all := func(x, y, n int, s api.Style) {
		g.Erase(x, y, n, s)
		g.Insert(x, y, n, s)
		g.Delete(x, y, n, s)
	}
	for _, s := range wrong {
		all(1, 0, 1, s)
	}
	for _, n := range append([]int{-1, -2, 3}, far...) {
		all(n, 0, 1, red)
		all(0, n-1, 1, red)
		all(n, n, n, red)
	}
	for _, n := range []int{0, -1, math.MinInt, math.MinInt32} {
		all(1, 0, n, red)
	}
	all(0, 2, 1, red)
	if !Same(g, want) {
		t.Errorf("something is done:\n%s", dump(g))
	}
}

// G4

func TestUp(t *testing.T) {
	for _, c := range []struct {
		top, bottom, n int
		keep           bool
		want, looks    string
	}{
		{0, 3, 1, true, "k+|a|--|b+|c|d|", "pppr"},
		{0, 3, 2, true, "k+|a|b+|--|c|d||", "pprr"},
		{0, 3, 4, true, "a|b+|c|d|--||||", "rrrr"},
		{0, 3, math.MaxInt, true, "a|b+|c|d|--||||", "rrrr"},
		{0, 3, 1, false, "k+|--|b+|c|d|", "pppr"},
		{0, 1, 1, true, "k+|a|--|b+||c|d", "prpp"},
		{0, 0, 1, true, "k+|a|--||b+|c|d", "rppp"},
		{0, 0, 9, true, "k+|a|--||b+|c|d", "rppp"},
		{1, 3, 1, true, "k+|--|a|c|d|", "pppr"},
		{1, 2, 2, true, "k+|--|a|||d", "prrp"},
		{3, 3, 1, true, "k+|--|a|b+|c|", "pppr"},
	} {
		g := made(t, 1, 4, 4, "k+", "a", "b+", "c", "d")
		g.Up(c.top, c.bottom, c.n, red, c.keep)
		expect(t, g, "Up", c.want)
		l := ""
		for y := range 4 {
			l += looks(g, y)
		}
		if l != c.looks {
			t.Errorf("%v: looks %s", c, l)
		}
	}
}

func TestUpForgetsTheOldest(t *testing.T) {
	g := made(t, 2, 3, 2, "a", "b+", "c")
	g.Up(0, 2, 3, plain, true)
	expect(t, g, "two kept", "b+|c|--|||")
	g.Up(0, 2, 1, plain, true)
	expect(t, g, "one more", "c||--|||")
	if g.History() != 2 || len(g.Line(-3)) != 0 {
		t.Errorf("%d have scrolled off", g.History())
	}
	g = made(t, 2, 3, 0, "a", "b", "c")
	g.Up(0, 2, 1, plain, true)
	expect(t, g, "none kept", "--|b|c|")
	g = made(t, 2, 2, 1, "a", "b")
	g.Up(0, 1, 1, plain, true)
	expect(t, g, "one kept", "a|--|b|")
}

// Rows that scroll off stay as they are, whatever is done later.
func TestWhatHasScrolledOffStays(t *testing.T) {
	g := made(t, 4, 2, 3)
	write(g, 0, 0, "a\u4e2d", blue)
	g.Wrap(0, true)
	was := g.Line(0)
	g.Up(0, 1, 1, red, true)
	for y := range 2 {
		write(g, 0, y, "xxxx", plain)
		g.Insert(0, y, 1, red)
		g.Delete(1, y, 1, red)
		g.Wrap(y, false)
	}
	g.Down(0, 1, 1, red)
	g.Up(1, 1, 1, red, true)
	if g.History() != 1 || !slices.Equal(g.Line(-1), was) || !g.Wrapped(-1) {
		t.Errorf("it is changed:\n%s", dump(g))
	}
}

func TestDown(t *testing.T) {
	for _, c := range []struct {
		top, bottom, n int
		want, looks    string
	}{
		{0, 3, 1, "k+|--||a|b+|c", "rppp"},
		{0, 3, 3, "k+|--||||a", "rrrp"},
		{0, 3, 4, "k+|--||||", "rrrr"},
		{0, 3, math.MaxInt, "k+|--||||", "rrrr"},
		{1, 2, 1, "k+|--|a||b+|d", "prpp"},
		{1, 2, 7, "k+|--|a|||d", "prrp"},
		{2, 2, 1, "k+|--|a|b+||d", "pprp"},
	} {
		g := made(t, 1, 4, 4, "k+", "a", "b+", "c", "d")
		g.Down(c.top, c.bottom, c.n, red)
		expect(t, g, "Down", c.want)
		l := ""
		for y := range 4 {
			l += looks(g, y)
		}
		if l != c.looks {
			t.Errorf("%v: looks %s", c, l)
		}
	}
}

// New rows share nothing with one another, nor with those that moved.
func TestScrolledRowsAreApart(t *testing.T) {
	g := made(t, 2, 4, 4, "a", "b", "c", "d")
	g.Up(0, 3, 2, plain, true)
	for y := range 4 {
		write(g, 0, y, string(rune('0'+y)), plain)
	}
	expect(t, g, "Up", "a|b|--|0|1|2|3")
	g.Down(0, 3, 2, plain)
	for y := range 4 {
		write(g, 1, y, string(rune('4'+y)), plain)
	}
	expect(t, g, "Down", "a|b|--| 4| 5|06|17")
}

func TestScrollsThatAreNone(t *testing.T) {
	g := made(t, 2, 3, 4, "k+", "a", "b+", "c")
	want := g.Clone()
	all := func(top, bottom, n int, s api.Style) {
		g.Up(top, bottom, n, s, true)
		g.Up(top, bottom, n, s, false)
		g.Down(top, bottom, n, s)
	}
	for _, s := range wrong {
		all(0, 2, 1, s)
	}
	for _, n := range far {
		all(n, 2, 1, red)
		all(0, n, 1, red)
		all(n, n, 1, red)
	}
	for _, n := range []int{0, -1, math.MinInt, math.MinInt32} {
		all(0, 2, n, red)
	}
	all(-1, 2, 1, red)
	all(-1, -1, 1, red)
	all(1, 0, 1, red)
	all(2, 1, 1, red)
	all(0, 3, 1, red)
	all(3, 3, 1, red)
	if !Same(g, want) {
		t.Errorf("something is done:\n%s", dump(g))
	}
}

func TestClear(t *testing.T) {
	g := made(t, 2, 2, 3, "a", "b+", "c+", "d")
	g.Clear()
	expect(t, g, "Clear", "--|c+|d")
	if g.History() != 0 || g.Limit() != 3 || len(g.Line(-1)) != 0 || g.Wrapped(-1) || g.Text(-1) != "" {
		t.Errorf("%d have scrolled off, limit %d, row -1 %v", g.History(), g.Limit(), g.Line(-1))
	}
	g.Clear()
	g.Up(0, 1, 1, plain, true)
	expect(t, g, "Up behind Clear", "c+|--|d|")
}

// What is forgotten must not live on behind the list that it stood in.
func TestForgottenCellsAreLetGo(t *testing.T) {
	g := made(t, 1, 1, 2, "a", "b", "c")
	for range 9 {
		held, moves := g.past, len(g.past) == cap(g.past)
		g.Up(0, 0, 1, plain, true)
		if !moves && held[0].cells != nil {
			t.Error("the oldest row's cells are kept")
		}
	}
	held := g.past
	g.Clear()
	for _, r := range held {
		if r.cells != nil {
			t.Error("cells are kept behind Clear")
		}
	}
}

// G5

func TestResizeCut(t *testing.T) {
	for _, c := range []struct {
		cols, rows int
		at, place  api.Pos
		want       string
	}{
		{4, 2, api.Pos{X: 3, Y: 1}, api.Pos{X: 3, Y: 1}, "ab\u4e2d_+|--|\u4e2d_\u4e2d_+|ef"},
		{6, 2, api.Pos{X: 3, Y: 1}, api.Pos{X: 3, Y: 1}, "ab\u4e2d_|--|\u4e2d_\u4e2d_|ef"},
		{3, 2, api.Pos{X: 3, Y: 1}, api.Pos{X: 2, Y: 1}, "ab|--|\u4e2d_|ef"},
		{2, 2, api.Pos{X: 1, Y: 0}, api.Pos{X: 1, Y: 0}, "ab|--|\u4e2d_|ef"},
		{1, 2, api.Pos{X: 1, Y: 1}, api.Pos{X: 0, Y: 1}, "a|--||e"},
		{4, 1, api.Pos{X: 1, Y: 1}, api.Pos{X: 1, Y: 0}, "ab\u4e2d_+|--|\u4e2d_\u4e2d_+"},
		{4, 4, api.Pos{X: 1, Y: 1}, api.Pos{X: 1, Y: 1}, "ab\u4e2d_+|--|\u4e2d_\u4e2d_+|ef||"},
		{5, 3, api.Pos{X: -1, Y: -1}, api.Pos{}, "ab\u4e2d_|--|\u4e2d_\u4e2d_|ef|"},
		{5, 3, api.Pos{X: 4, Y: 2}, api.Pos{X: 3, Y: 1}, "ab\u4e2d_|--|\u4e2d_\u4e2d_|ef|"},
		{250, 120, api.Pos{X: math.MaxInt, Y: math.MaxInt}, api.Pos{X: 3, Y: 1}, "ab\u4e2d_|--|\u4e2d_\u4e2d_|ef" + strings.Repeat("|", 118)},
		{1, 1, api.Pos{X: math.MinInt, Y: math.MinInt}, api.Pos{}, "a|--|"},
	} {
		g := made(t, 4, 2, 3, "ab\u4e2d+", "\u4e2d\u4e2d+", "ef")
		place, e := g.Resize(c.cols, c.rows, c.at, false)
		if place != c.place || e != api.OK || g.Cols() != c.cols || g.Rows() != c.rows || g.Limit() != 3 {
			t.Errorf("Resize(%d, %d, %v): %v, %d; must be %v; %d by %d, limit %d", c.cols, c.rows, c.at, place, e, c.place, g.Cols(), g.Rows(), g.Limit())
		}
		expect(t, g, "Resize", c.want)
	}
}

func TestResizeCutLooks(t *testing.T) {
	g := made(t, 3, 1, 1)
	g.Erase(0, 0, 3, red)
	g.Up(0, 0, 1, red, true)
	write(g, 1, 0, "\u4e2d", blue)
	g.Resize(2, 2, api.Pos{}, false)
	if looks(g, -1) != "rr" || looks(g, 0) != "rb" || looks(g, 1) != "pp" {
		t.Errorf("narrower: %s, %s, %s", looks(g, -1), looks(g, 0), looks(g, 1))
	}
	g.Resize(4, 2, api.Pos{}, false)
	if looks(g, -1) != "rrpp" || looks(g, 0) != "rbpp" || looks(g, 1) != "pppp" {
		t.Errorf("wider: %s, %s, %s", looks(g, -1), looks(g, 0), looks(g, 1))
	}
}

func TestResizeToNoSize(t *testing.T) {
	g := made(t, 3, 2, 2, "k+", "\u4e2da", "b")
	want := g.Clone()
	l := [][2]int{{0, 2}, {-1, 2}, {251, 2}, {3, 0}, {3, -1}, {3, 121}, {0, 0}}
	for _, n := range far {
		l = append(l, [2]int{n, 2}, [2]int{3, n})
	}
	for _, c := range l {
		for _, reflow := range []bool{false, true} {
			if p, e := g.Resize(c[0], c[1], api.Pos{X: 1, Y: 1}, reflow); p != (api.Pos{}) || e != api.ErrArg {
				t.Errorf("Resize(%v, %v): %v, %d", c, reflow, p, e)
			}
		}
	}
	if !Same(g, want) {
		t.Errorf("something is done:\n%s", dump(g))
	}
}

// G6

type reflows struct {
	was        []string
	cols, rows int
	at, place  api.Pos
	want       string
}

// Of grids of 4 columns, 2 rows, 5 that may have scrolled off.
func TestReflow(t *testing.T) {
	for name, c := range map[string]reflows{
		"narrower":                       {[]string{"abcd+", "ef"}, 2, 2, api.Pos{X: 1, Y: 1}, api.Pos{X: 1, Y: 1}, "ab+|--|cd+|ef"},
		"place ahead":                    {[]string{"abcd", "ef"}, 2, 2, api.Pos{X: 1, Y: 0}, api.Pos{X: 1, Y: 0}, "--|ab+|cd"},
		"place at the last row":          {[]string{"abcd", "ef"}, 2, 2, api.Pos{X: 1, Y: 1}, api.Pos{X: 1, Y: 1}, "ab+|--|cd|ef"},
		"wider":                          {[]string{"abcd+", "ef"}, 6, 2, api.Pos{X: 1, Y: 1}, api.Pos{X: 5, Y: 0}, "--|abcdef|"},
		"scrolled off comes back":        {[]string{"k", "l", "m", "n"}, 4, 3, api.Pos{X: 0, Y: 1}, api.Pos{X: 0, Y: 2}, "k|--|l|m|n"},
		"all comes back":                 {[]string{"k", "l", "m"}, 4, 5, api.Pos{X: 0, Y: 1}, api.Pos{X: 0, Y: 2}, "--|k|l|m||"},
		"goes on from what scrolled":     {[]string{"abcd+", "efgh+", "ij"}, 5, 2, api.Pos{X: 2, Y: 0}, api.Pos{X: 1, Y: 1}, "--|abcde+|fghij"},
		"same size":                      {[]string{"a+", "b+", "c"}, 4, 2, api.Pos{X: 1, Y: 1}, api.Pos{X: 1, Y: 1}, "a   +|--|b   +|c"},
		"same size, nothing below":       {[]string{"k", "a"}, 4, 1, api.Pos{X: 0, Y: 0}, api.Pos{X: 0, Y: 0}, "--|k"},
		"blank rows below are gone":      {[]string{"k", "l", "", ""}, 4, 3, api.Pos{X: 0, Y: 0}, api.Pos{X: 0, Y: 2}, "--|k|l|"},
		"but not ahead of the place":     {[]string{"k", "", "", ""}, 4, 3, api.Pos{X: 2, Y: 1}, api.Pos{X: 2, Y: 2}, "k|--|||"},
		"nor between":                    {[]string{"k", "", "", "z"}, 4, 1, api.Pos{X: 0, Y: 1}, api.Pos{X: 0, Y: 0}, "k|||--|z"},
		"blanks ahead of the place stay": {[]string{"ab", ""}, 2, 2, api.Pos{X: 3, Y: 0}, api.Pos{X: 1, Y: 1}, "--|ab+|"},
		"blanks behind it do not":        {[]string{"ab", ""}, 2, 2, api.Pos{X: 1, Y: 0}, api.Pos{X: 1, Y: 0}, "--|ab|"},
		"blank at it stays":              {[]string{"ab", ""}, 2, 2, api.Pos{X: 2, Y: 0}, api.Pos{X: 0, Y: 1}, "--|ab+|"},
		"in an empty line":               {[]string{"ab", ""}, 2, 2, api.Pos{X: 3, Y: 1}, api.Pos{X: 1, Y: 1}, "ab|--|+|"},
		"a wide one has no room":         {[]string{"ab\u4e2d", ""}, 3, 2, api.Pos{X: 2, Y: 0}, api.Pos{X: 0, Y: 1}, "--|ab +|\u4e2d_"},
		"the place at a padding":         {[]string{"ab\u4e2d", ""}, 3, 2, api.Pos{X: 3, Y: 0}, api.Pos{X: 1, Y: 1}, "--|ab +|\u4e2d_"},
		"wide ones in two columns":       {[]string{"a\u4e2db", ""}, 2, 3, api.Pos{X: 0, Y: 0}, api.Pos{X: 0, Y: 0}, "--|a +|\u4e2d_+|b"},
		"in one column":                  {[]string{"a\u4e2db", ""}, 1, 3, api.Pos{X: 0, Y: 0}, api.Pos{X: 0, Y: 0}, "--|a+|+|b"},
		"padding gone, the place there":  {[]string{"a\u4e2db", ""}, 1, 3, api.Pos{X: 2, Y: 0}, api.Pos{X: 0, Y: 1}, "--|a+|+|b"},
		"one behind that":                {[]string{"a\u4e2db", ""}, 1, 3, api.Pos{X: 3, Y: 0}, api.Pos{X: 0, Y: 2}, "--|a+|+|b"},
		"the last one is wrapped":        {[]string{"a", "bcd+"}, 2, 3, api.Pos{X: 0, Y: 0}, api.Pos{X: 0, Y: 0}, "--|a|bc+|d+"},
		"wrapped, and empty":             {[]string{"a", "+"}, 2, 3, api.Pos{X: 0, Y: 0}, api.Pos{X: 0, Y: 0}, "--|a|+|"},
		"wrapped, and empty, is no end":  {[]string{"k", "a", "+"}, 4, 1, api.Pos{X: 0, Y: 1}, api.Pos{X: 0, Y: 0}, "k|a|--|+"},
		"more below than there is room":  {[]string{"ab", "cdef"}, 1, 2, api.Pos{X: 0, Y: 0}, api.Pos{X: 0, Y: 0}, "--|a+|b"},
		"wraps where it is cut":          {[]string{"abcd", "efgh"}, 2, 1, api.Pos{X: 0, Y: 0}, api.Pos{X: 0, Y: 0}, "--|ab+"},
		"just full":                      {[]string{"abcd+", "ef"}, 3, 2, api.Pos{X: 1, Y: 1}, api.Pos{X: 2, Y: 1}, "--|abc+|def"},
		"the oldest are gone":            {[]string{"k", "l", "m", "n", "abcd", "efgh"}, 1, 2, api.Pos{X: 3, Y: 1}, api.Pos{X: 0, Y: 1}, "b+|c+|d|e+|f+|--|g+|h"},
		"below":                          {[]string{"ab", "cd"}, 4, 2, api.Pos{X: -1, Y: -1}, api.Pos{X: 0, Y: 0}, "--|ab|cd"},
		"above":                          {[]string{"ab", "cd"}, 4, 2, api.Pos{X: 4, Y: 2}, api.Pos{X: 3, Y: 1}, "--|ab|cd"},
		"far below":                      {[]string{"ab", "cd"}, 4, 2, api.Pos{X: math.MinInt, Y: math.MinInt}, api.Pos{X: 0, Y: 0}, "--|ab|cd"},
		"far above":                      {[]string{"ab", "cd"}, 4, 2, api.Pos{X: math.MaxInt, Y: math.MaxInt}, api.Pos{X: 3, Y: 1}, "--|ab|cd"},
	} {
		t.Run(name, func(t *testing.T) {
			g := made(t, 4, 2, 5, c.was...)
			place, e := g.Resize(c.cols, c.rows, c.at, true)
			if place != c.place || e != api.OK || g.Cols() != c.cols || g.Rows() != c.rows || g.Limit() != 5 {
				t.Errorf("%v, %d; must be %v; %d by %d, limit %d", place, e, c.place, g.Cols(), g.Rows(), g.Limit())
			}
			for y := range c.rows {
				if len(g.Line(y)) != c.cols {
					t.Errorf("row %d has %d cells", y, len(g.Line(y)))
				}
			}
			expect(t, g, "rows", trimmed(c.want))
		})
	}
}

// trimmed takes the blanks at the rows' ends off, as shown does.
func trimmed(s string) string {
	l := strings.Split(s, "|")
	for i, x := range l {
		text, wrapped := strings.CutSuffix(x, "+")
		if l[i] = strings.TrimRight(text, " "); wrapped {
			l[i] += "+"
		}
	}
	return strings.Join(l, "|")
}

// The fill ahead of a wide cell that has no room is plain, and so is that at a line's end; a blank that is not plain is no fill.
func TestReflowLooks(t *testing.T) {
	g := made(t, 4, 1, 2)
	write(g, 0, 0, "ab\u4e2d", red)
	g.Resize(3, 2, api.Pos{}, true)
	if looks(g, 0) != "rrp" || looks(g, 1) != "rrp" || !g.Wrapped(0) {
		t.Errorf("no room: %s, %s", looks(g, 0), looks(g, 1))
	}
	g = made(t, 4, 1, 2)
	write(g, 0, 0, "\u4e2db", red)
	g.Resize(1, 3, api.Pos{}, true)
	if looks(g, 0)+looks(g, 1)+looks(g, 2) != "rrp" || g.Text(0) != "" || g.Text(1) != "b" {
		t.Errorf("one column: %s, %s, %s", looks(g, 0), looks(g, 1), looks(g, 2))
	}
	g = made(t, 4, 1, 2)
	g.Erase(0, 0, 3, red)
	g.Resize(2, 2, api.Pos{}, true)
	if looks(g, 0) != "rr" || looks(g, 1) != "rp" || !g.Wrapped(0) {
		t.Errorf("blanks of a style: %s, %s", looks(g, 0), looks(g, 1))
	}
	g = made(t, 2, 3, 2, "a")
	g.Erase(0, 2, 2, red)
	g.Resize(2, 1, api.Pos{}, true)
	expect(t, g, "rows of blanks of a style below", "--|a")
	g = made(t, 2, 2, 2, "a")
	g.Erase(0, 1, 2, red)
	place, _ := g.Resize(2, 3, api.Pos{X: 1}, true)
	if looks(g, 1) != "rr" || looks(g, 2) != "pp" || place != (api.Pos{X: 1}) {
		t.Errorf("higher: %s, %s, %v", looks(g, 1), looks(g, 2), place)
	}
}

// G7

func TestCloneIsOfItsOwn(t *testing.T) {
	g := made(t, 3, 2, 3, "k+", "a\u4e2d", "b+")
	was := dump(g)
	c := g.Clone()
	if dump(c) != was || c.Limit() != 3 || !Same(g, c) || !Same(c, g) || !Same(g, g) {
		t.Errorf("the clone:\n%s", dump(c))
	}
	change := func(g *Grid) {
		g.Put(0, 0, of('x', red))
		g.Wrap(1, false)
		g.Up(0, 1, 1, red, true)
		g.Clear()
		g.Resize(2, 3, api.Pos{}, false)
	}
	change(c)
	if dump(g) != was {
		t.Errorf("a change of the clone is seen:\n%s", dump(g))
	}
	c = g.Clone()
	change(g)
	if dump(c) != was {
		t.Errorf("a change is seen in the clone:\n%s", dump(c))
	}
}

// What has scrolled off is cut in place when the columns get fewer: not so in a clone.
func TestCloneOfWhatHasScrolledOff(t *testing.T) {
	g := made(t, 3, 1, 3, "a\u4e2d", "b")
	c := g.Clone()
	c.Resize(2, 1, api.Pos{}, false)
	expect(t, g, "narrower", "a\u4e2d_|--|b")
	expect(t, c, "the clone", "a|--|b")
}

func TestSame(t *testing.T) {
	base := func() *Grid { return made(t, 3, 2, 3, "k+", "a\u4e2d", "b+") }
	if !Same(base(), base()) {
		t.Error("two of the same are not")
	}
	for name, do := range map[string]func(g *Grid){
		"a rune":                    func(g *Grid) { g.Put(0, 1, of('c', plain)) },
		"a style":                   func(g *Grid) { g.Put(0, 1, of('b', red)) },
		"a blank's style":           func(g *Grid) { g.Erase(2, 1, 1, red) },
		"a width":                   func(g *Grid) { g.Put(1, 0, of('c', plain)) },
		"wrapped":                   func(g *Grid) { g.Wrap(1, false) },
		"what has scrolled off":     func(g *Grid) { g.Clear() },
		"more has scrolled off":     func(g *Grid) { g.Up(0, 1, 1, plain, true) },
		"more rows":                 func(g *Grid) { g.Resize(3, 3, api.Pos{}, false) },
		"more columns":              func(g *Grid) { g.Resize(4, 2, api.Pos{}, false) },
		"another row scrolled off":  func(g *Grid) { *g = *made(t, 3, 2, 3, "l+", "a\u4e2d", "b+") },
		"its style":                 func(g *Grid) { g.Clear(); g.Down(0, 1, 1, red) },
		"scrolled off, not wrapped": func(g *Grid) { *g = *made(t, 3, 2, 3, "k", "a\u4e2d", "b+") },
		"limit":                     func(g *Grid) { *g = *made(t, 3, 2, 4, "k+", "a\u4e2d", "b+") },
	} {
		g := base()
		do(g)
		if Same(g, base()) || Same(base(), g) {
			t.Errorf("%s: still the same", name)
		}
	}
	a, _ := New(2, 3, 1)
	b, _ := New(3, 2, 1)
	if Same(a, b) {
		t.Error("2 by 3 is 3 by 2")
	}
}

// P3: what is answered is new.
func TestLineIsNew(t *testing.T) {
	g := made(t, 3, 1, 1, "abc", "def")
	for y := -1; y < 1; y++ {
		l, was := g.Line(y), g.Line(y)
		l[0] = of('x', red)
		_ = append(l[:1], of('y', red))
		if !slices.Equal(g.Line(y), was) {
			t.Errorf("row %d is changed through what was answered: %v", y, g.Line(y))
		}
	}
}

// P1: a grid that New did not make has no rows.
func TestGridOfNothing(t *testing.T) {
	for _, reflow := range []bool{false, true} {
		g := &Grid{}
		g.Put(0, 0, of('a', plain))
		g.Wrap(0, true)
		g.Erase(0, 0, 1, plain)
		g.Insert(0, 0, 1, plain)
		g.Delete(0, 0, 1, plain)
		g.Up(0, 0, 1, plain, true)
		g.Down(0, 0, 1, plain)
		g.Clear()
		if g.Cell(0, 0) != (api.Cell{}) || len(g.Line(0)) != 0 || g.Text(0) != "" || g.Wrapped(0) || !Same(g, g.Clone()) {
			t.Error("something is in it")
		}
		if p, e := g.Resize(2, 1, api.Pos{X: 5, Y: 5}, reflow); p != (api.Pos{}) || e != api.OK {
			t.Errorf("Resize: %v, %d", p, e)
		}
		expect(t, g, "Resize", "--|")
	}
}

// G8

// runesOf is the runes of all rows but blanks.
func runesOf(g *Grid) string {
	s := ""
	for y := -g.History(); y < g.Rows(); y++ {
		s += strings.ReplaceAll(g.Text(y), " ", "")
	}
	return s
}

func TestReflowKeepsRunes(t *testing.T) {
	was := []string{"a\u4e2db+", "\u4e2d\u4e2d+", " c", "", "d e\u4e2d+", "fgh\u4e2d", "i"}
	want := "a\u4e2db\u4e2d\u4e2dcde\u4e2dfgh\u4e2di"
	for cols := 2; cols <= 30; cols++ {
		for rows := 1; rows <= 12; rows++ {
			g := made(t, 5, 3, 100, was...)
			at := api.Pos{X: 0, Y: 2}
			for _, size := range [][2]int{{cols, rows}, {7, 3}, {3, 2}, {cols, 1}} {
				at, _ = g.Resize(size[0], size[1], at, true)
				if s := runesOf(g); s != want || unsound(g) != "" {
					t.Fatalf("%d by %d, then %v: %q %s", cols, rows, size, s, unsound(g))
				}
				if c := g.Cell(at.X, at.Y); c.Rune != 'i' {
					t.Fatalf("%d by %d, then %v: the place is at %v", cols, rows, size, c)
				}
			}
		}
	}
}

func TestThereAndBack(t *testing.T) {
	was := []string{"a\u4e2db", "", "\u4e2d\u4e2d", " c", "ddddd", "e"}
	for cols := 5; cols <= 12; cols++ {
		for rows := 3; rows <= 9; rows++ {
			for y := range 3 {
				g := made(t, 5, 3, 4, was...)
				want := g.Clone()
				at, _ := g.Resize(cols, rows, api.Pos{X: 4, Y: y}, true)
				at, e := g.Resize(5, 3, at, true)
				if !Same(g, want) || at != (api.Pos{X: 4, Y: y}) || e != api.OK {
					t.Errorf("by %d, %d: %v:\n%s", cols, rows, at, dump(g))
				}
			}
		}
	}
}

// The examples of the chapter.
func TestExamples(t *testing.T) {
	g, _ := New(3, 2, 5)
	g.Put(0, 0, of('a', plain))
	g.Put(1, 0, of(0x4e2d, plain))
	g.Put(1, 0, of('b', plain))
	if l := g.Line(0); !slices.Equal(l, []api.Cell{of('a', plain), of('b', plain), of(' ', plain)}) {
		t.Errorf("Line(0): %v", l)
	}
	g.Put(2, 0, of(0x4e2d, plain))
	expect(t, g, "no room", "--|ab|")
	g = made(t, 4, 2, 5, "abcd+", "ef")
	if p, e := g.Resize(2, 2, api.Pos{X: 1, Y: 1}, true); p != (api.Pos{X: 1, Y: 1}) || e != api.OK {
		t.Errorf("narrower: %v, %d", p, e)
	}
	expect(t, g, "narrower", "ab+|--|cd+|ef")
	if p, e := g.Resize(6, 2, api.Pos{X: 1, Y: 1}, true); p != (api.Pos{X: 5, Y: 0}) || e != api.OK {
		t.Errorf("wider: %v, %d", p, e)
	}
	expect(t, g, "wider", "--|abcdef|")
	g = made(t, 4, 2, 5, "a", "b")
	g.Up(0, 1, 1, style.Plain(), true)
	expect(t, g, "Up", "a|--|b|")
}
