package screen

import (
	"fmt"
	"math"
	"slices"
	"strings"
	"testing"

	"mullion/api"
	"mullion/cell"
	"mullion/grid"
	"mullion/style"
	"mullion/vtparse"
)

var plain = api.Style{Fg: -1, Bg: -1}

func made(t *testing.T, cols, rows, history int, bytes ...string) *Screen {
	t.Helper()
	s, e := New(cols, rows, history)
	if e != api.OK {
		t.Fatalf("New(%d, %d, %d): %d", cols, rows, history, e)
	}
	for _, b := range bytes {
		s.Feed([]byte(b))
	}
	return s
}

// shown is what a screen shows: what has scrolled off and a /, the rows, @ and the cursor's place, with w if it waits.
func shown(s *Screen) string {
	g := s.Grid()
	l := texts(g)
	text := strings.Join(l[g.History():], "|")
	if g.History() > 0 {
		text = strings.Join(l[:g.History()], "|") + "/" + text
	}
	c := s.View().Cursor
	text += fmt.Sprintf(" @%d,%d", c.X, c.Y)
	if c.Wait {
		text += "w"
	}
	return text
}

func expect(t *testing.T, s *Screen, what, want string) {
	t.Helper()
	if got := shown(s); got != want {
		t.Errorf("%s: %q, must be %q", what, got, want)
	}
	if bad := unsound(s); bad != "" {
		t.Errorf("%s: %s", what, bad)
	}
}

type scene struct{ bytes, want string }

// scenes holds what new screens, of at most 10 rows that have scrolled off, show that are fed bytes.
func scenes(t *testing.T, cols, rows int, l []scene) {
	t.Helper()
	for _, c := range l {
		expect(t, made(t, cols, rows, 10, c.bytes), fmt.Sprintf("%dx%d %q", cols, rows, c.bytes), c.want)
	}
}

// answers holds what new screens answer.
func answers(t *testing.T, cols, rows int, l []scene) {
	t.Helper()
	for _, c := range l {
		s := made(t, cols, rows, 10)
		if got := string(s.Feed([]byte(c.bytes))); got != c.want {
			t.Errorf("%q answers %q, must be %q", c.bytes, got, c.want)
		}
	}
}

func modesOf(s *Screen) int { return s.View().Modes }

// letters is a row's cells, each with its colours and attributes.
func letters(s *Screen, y int) string {
	out := ""
	for _, c := range s.View().Rows[y] {
		if c.Width > 0 {
			out += string(c.Rune)
		}
		if c.Style != plain {
			out += fmt.Sprintf("(%d,%d,%d)", c.Style.Fg, c.Style.Bg, c.Style.Attr)
		}
	}
	return out
}

func expectLetters(t *testing.T, s *Screen, y int, want string) {
	t.Helper()
	if got := letters(s, y); got != want {
		t.Errorf("row %d: %q, must be %q", y, got, want)
	}
}

func TestExamples(t *testing.T) {
	scenes(t, 4, 2, []scene{
		{"abcde", "abcd+|e @1,1"},
		{"abcd", "abcd| @3,0w"},
		{"ab\nc\nd", "ab/  c|   d @3,1w"},
		{"abc中", "abc+|中 @2,1"},
		{"ab\x1b[?1049hxy\x1b[?1049l", "ab| @2,0"},
		{"\x1b(0q", "─| @1,0"},
	})
	answers(t, 4, 2, []scene{
		{"\x1b[2;3H\x1b[6n", "\x1b[2;3R"},
		{"\x1b[1;31m\x1bP$qm\x1b\\", "\x1bP1$r1;31m\x1b\\"},
	})
}

// N6.1

// expectNew holds that a screen is as new.
func expectNew(t *testing.T, s *Screen, cols, rows, history, bells int) {
	t.Helper()
	m := newTerm(cols, rows, history)
	m.bells = bells
	if bad := m.otherwise(s); bad != "" {
		t.Fatalf("not as new: %s", bad)
	}
	for x := 0; x < cols-1; {
		next := min(x/8*8+8, cols-1)
		s.Feed([]byte("\t"))
		if x = next; s.View().Cursor.X != x {
			t.Fatalf("a tab goes to %d, must go to %d", s.View().Cursor.X, x)
		}
	}
	row := strings.Repeat("E", cols)
	for _, c := range []scene{
		{"\x1b[b", ""},
		{"\r\x0eq\x0fq", "qq"},
		{"\x1b[1m\x1b8\x1b[1;1H", "qq"},
		{"\x1b[?47h\x1b#8\x1b[4m\x1b8", row},
	} {
		s.Feed([]byte(c.bytes))
		if got := s.Rows()[0]; got != c.want[:min(len(c.want), cols)] || s.Style() != plain || s.View().Modes&api.ModeOrigin != 0 {
			t.Fatalf("%q: %q, %v", c.bytes, got, s.Style())
		}
	}
}

func TestNew(t *testing.T) {
	for _, c := range [][3]int{{1, 1, 0}, {250, 120, 2000}, {80, 24, 100}, {2, 3, 1}, {8, 1, 0}, {9, 2, 0}, {17, 2, 5}} {
		s, e := New(c[0], c[1], c[2])
		if s == nil || e != api.OK {
			t.Fatalf("New(%v): %d", c, e)
		}
		if v := s.View(); v.Modes != api.ModeWrap|api.ModeCursor || v.Cursor != (api.Cursor{Shown: true}) || v.Title != "" {
			t.Errorf("New(%v): %+v, %d, %q", c, v.Cursor, v.Modes, v.Title)
		}
		if top, bottom := s.Region(); top != 0 || bottom != c[1]-1 {
			t.Errorf("New(%v): the region is %d to %d", c, top, bottom)
		}
		if s.Grid().Limit() != c[2] {
			t.Errorf("New(%v): the limit is %d", c, s.Grid().Limit())
		}
		if c[0] > 1 {
			expectNew(t, s, c[0], c[1], c[2], 0)
		}
	}
}

func TestNewOfWrong(t *testing.T) {
	for _, c := range [][3]int{{0, 1, 0}, {251, 1, 0}, {-1, 1, 0}, {1, 0, 0}, {1, 121, 0}, {1, 1, -1}, {1, 1, 2001}, {math.MinInt, 1, 0}, {1, math.MaxInt, 0}, {1, 1, math.MaxInt}} {
		if s, e := New(c[0], c[1], c[2]); s != nil || e != api.ErrArg {
			t.Errorf("New(%v): %v, %d", c, s, e)
		}
	}
}

// used is bytes that change all that a screen keeps.
const used = "\a\x1b]0;t\a\x1b[?1;6;1000;2004h\x1b[4;20h\x1b=\x1b[?7;25l\x1b[2;3r\x1b[3g\x1b[1;33;44m\x1b(0\x1b)0\x0eab\n\n\ncd\x1b7\x1b[?47h\x1b[5mx\x1b[2;2H\x1b7\a"

func TestReset(t *testing.T) {
	for _, reset := range []func(s *Screen){
		func(s *Screen) { s.Reset() },
		func(s *Screen) { s.Feed([]byte("\x1bc")) },
		func(s *Screen) { s.Do(api.Action{Kind: api.ActEsc, Byte: 'c'}) },
	} {
		s := made(t, 20, 4, 7, used)
		reset(s)
		expectNew(t, s, 20, 4, 7, 2)
	}
	s := made(t, 4, 2, 5, "\x1b[1")
	s.Reset()
	s.Feed([]byte("mx"))
	expect(t, s, "a parser as new", "mx| @2,0")
	s.Feed([]byte("\xe4\xb8"))
	s.Do(api.Action{Kind: api.ActEsc, Byte: 'c'})
	s.Feed([]byte("\xadx"))
	expect(t, s, "a parser as new", "�x| @2,0")
	s.Feed([]byte("ab\x1bcx\x1b[1;"))
	s.Feed([]byte("3Hy"))
	expect(t, s, "what is begun behind a reset goes on", "x y| @3,0")
}

func TestFeed(t *testing.T) {
	s := made(t, 20, 4, 7)
	if a := s.Feed(nil); len(a) != 0 {
		t.Errorf("nothing answers %q", a)
	}
	bytes := []byte("a\x1b[5nb\x1b[6nc\x1bP$qr\x1b\\\x1b[")
	before := slices.Clone(bytes)
	if a := string(s.Feed(bytes)); a != "\x1b[0n\x1b[1;3R\x1bP1$r1;4r\x1b\\" {
		t.Errorf("answers %q", a)
	}
	if !slices.Equal(bytes, before) {
		t.Errorf("Feed changed its bytes to %q", bytes)
	}
	clear(bytes)
	if a := string(s.Feed([]byte("6n"))); a != "\x1b[1;4R" {
		t.Errorf("answers %q", a)
	}
	expect(t, s, "fed", "abc||| @3,0")
}

func TestFieldsThatAreNotUsed(t *testing.T) {
	all := api.Action{Rune: 'r', Byte: 'J', Params: []int{2}, Inter: "?", Text: "0;t"}
	for kind := range 7 {
		s := made(t, 4, 2, 5, "ab")
		a := all
		a.Kind = kind
		s.Do(a)
		want := "ab| @2,0"
		if kind == api.ActPrint {
			want = "abr| @3,0"
		}
		expect(t, s, fmt.Sprintf("kind %d", kind), want)
		if title := s.View().Title; title != "" && kind != api.ActOsc {
			t.Errorf("kind %d makes the title %q", kind, title)
		}
	}
	for _, a := range []api.Action{
		{Kind: api.ActControl, Byte: 13, Rune: 'x', Params: []int{1}, Inter: "(", Text: "m"},
		{Kind: api.ActEsc, Byte: 'E', Rune: 'x', Params: []int{5}, Text: "m"},
		{Kind: api.ActCsi, Byte: 'D', Params: []int{9}, Rune: 'x', Text: "m"},
	} {
		s := made(t, 4, 2, 5, "ab")
		s.Do(a)
		if x := s.View().Cursor.X; x != 0 {
			t.Errorf("%+v: the cursor is in column %d", a, x)
		}
	}
	s := made(t, 4, 2, 5, "\x1b[1m")
	if a := string(s.Do(api.Action{Kind: api.ActDcs, Byte: 'q', Inter: "$", Text: "m", Rune: 'x', Params: []int{7}})); a != "\x1bP1$r1m\x1b\\" {
		t.Errorf("a DCS answers %q", a)
	}
}

func TestKindsThatAreNone(t *testing.T) {
	for _, kind := range []int{0, -1, 7, math.MinInt, math.MaxInt} {
		s := made(t, 4, 2, 5, "ab")
		if a := s.Do(api.Action{Kind: kind, Rune: 'x', Byte: 'c', Text: "0;t"}); len(a) != 0 {
			t.Errorf("kind %d answers %q", kind, a)
		}
		expect(t, s, "no kind", "ab| @2,0")
	}
}

func TestWhatIsAnsweredIsNew(t *testing.T) {
	s := made(t, 4, 2, 5, "ab")
	s.Grid().Put(0, 0, api.Cell{Rune: 'x', Width: 1, Style: plain})
	s.Grid().Up(0, 1, 1, plain, true)
	s.View().Rows[0][0].Rune = 'x'
	s.Rows()[0] = "x"
	s.Feed([]byte("\x1b[5n"))[0] = 'x'
	params := []int{1, 2}
	s.Do(api.Action{Kind: api.ActCsi, Byte: 'H', Params: params})
	expect(t, s, "what is answered is changed", "ab| @1,0")
	if params[0] != 1 || params[1] != 2 {
		t.Errorf("Do changed the parameters to %v", params)
	}
	s.Do(api.Action{Kind: api.ActCsi, Byte: 'm', Params: params[:1]})
	if s.Style().Attr != api.Bold {
		t.Errorf("what lies behind a list's length is read: %v", s.Style())
	}
	v := s.View()
	if l := append(v.Rows[0], api.Cell{Rune: 'x'}); l[4] == v.Rows[1][0] {
		t.Error("rows share memory")
	}
}

func TestBells(t *testing.T) {
	s := made(t, 4, 2, 5, "a\ab\x1b]0;t\a\a")
	if s.Bells() != 2 {
		t.Errorf("%d bells", s.Bells())
	}
	s.Do(api.Action{Kind: api.ActControl, Byte: 7})
	s.Reset()
	if s.Bells() != 3 {
		t.Errorf("%d bells", s.Bells())
	}
	expect(t, s, "a bell", "| @0,0")
}

func TestClear(t *testing.T) {
	s := made(t, 4, 2, 5, "ab\r\nc\r\nd\r\ne")
	expect(t, s, "scrolled", "ab|c/d|e @1,1")
	s.Clear()
	expect(t, s, "Clear", "d|e @1,1")
	s = made(t, 4, 2, 5, "ab\r\nc\r\nd\x1b[?1047hx")
	s.Clear()
	expect(t, s, "Clear", "| x @2,1")
	s.Feed([]byte("\x1b[?1047l"))
	expect(t, s, "Clear on the other screen", "c|d @2,1")
}

func TestHistory(t *testing.T) {
	s := made(t, 4, 2, 2, "1\r\n2\r\n3\r\n4\r\n5\r\n6")
	expect(t, s, "at most two", "3|4/5|6 @1,1")
	s = made(t, 4, 2, 0, "1\r\n2\r\n3")
	expect(t, s, "none", "2|3 @1,1")
	s = made(t, 4, 2, 9, "1\r\n2\r\n3\x1b[?1049h1\r\n2\r\n3\r\n4\x1b[9S")
	if g := s.Grid(); g.History() != 0 || g.Limit() != 0 {
		t.Errorf("the other screen has %d rows that have scrolled off, at most %d", g.History(), g.Limit())
	}
}

// N6.2

func TestView(t *testing.T) {
	s := made(t, 3, 2, 5, "\x1b[31ma\x1b[m中\x1b]2;title\a\x1b[?25l\x1b[?2004h")
	want := api.View{
		Rows: [][]api.Cell{
			{{Rune: 'a', Width: 1, Style: api.Style{Fg: 1, Bg: -1}}, {Rune: 0x4e2d, Width: 2, Style: plain}, {Style: plain}},
			slices.Repeat([]api.Cell{{Rune: ' ', Width: 1, Style: plain}}, 3),
		},
		Cursor: api.Cursor{X: 2, Y: 0, Wait: true},
		Modes:  api.ModeWrap | api.ModeBracket,
		Title:  "title",
	}
	if got := s.View(); fmt.Sprint(got) != fmt.Sprint(want) {
		t.Errorf("%v, must be %v", got, want)
	}
	s.Feed([]byte("\x1b[?25h\r"))
	if c := s.View().Cursor; c != (api.Cursor{Shown: true}) {
		t.Errorf("the cursor is %+v", c)
	}
	if l := s.Rows(); !slices.Equal(l, []string{"a中", ""}) {
		t.Errorf("rows %q", l)
	}
}

// N6.3

func TestResize(t *testing.T) {
	for _, c := range []struct {
		cols, rows int
		bytes      string
		to         [2]int
		want       string
	}{
		{4, 2, "abcdef", [2]int{2, 2}, "ab+|cd+/ef+| @0,1"},
		{4, 2, "abcdef\b", [2]int{2, 2}, "ab+/cd+|ef @1,1"},
		{4, 2, "abcdef", [2]int{6, 2}, "abcdef+| @0,1"},
		{4, 2, "abcdef\b", [2]int{6, 2}, "abcdef| @5,0"},
		{4, 2, "abcd", [2]int{4, 2}, "abcd| @3,0"},
		{4, 2, "abcd", [2]int{6, 1}, "abcd @3,0"},
		{4, 3, "a\r\nb\r\nc", [2]int{4, 2}, "a/b|c @1,1"},
		{4, 3, "a\r\nb\r\nc\x1b[H", [2]int{4, 2}, "a|b @0,0"},
		{4, 2, "a\r\nb\r\nc", [2]int{4, 3}, "a|b|c @1,2"},
		{4, 2, "abcdefgh", [2]int{1, 1}, "a+|b+|c+|d+|e+|f+|g+/h @0,0"},
	} {
		s := made(t, c.cols, c.rows, 10, c.bytes)
		if e := s.Resize(c.to[0], c.to[1]); e != api.OK {
			t.Errorf("Resize(%v): %d", c.to, e)
		}
		expect(t, s, fmt.Sprintf("%q to %v", c.bytes, c.to), c.want)
		if top, bottom := s.Region(); top != 0 || bottom != c.to[1]-1 {
			t.Errorf("%v: the region is %d to %d", c.to, top, bottom)
		}
	}
}

func TestResizeOfWrong(t *testing.T) {
	for _, c := range [][2]int{{0, 2}, {251, 2}, {4, 0}, {4, 121}, {-1, -1}, {math.MinInt, 5}, {5, math.MaxInt}} {
		for _, bytes := range []string{"", "\x1b[?1049hxyzw"} {
			s := made(t, 4, 3, 10, "abcdefgh\x1b[2;3r\x1b[2;4Hi", bytes)
			before := shown(s)
			if e := s.Resize(c[0], c[1]); e != api.ErrArg {
				t.Errorf("Resize(%v): %d", c, e)
			}
			top, bottom := s.Region()
			if got := shown(s); got != before || (top != 1 || bottom != 2) && bytes == "" {
				t.Errorf("Resize(%v): %q, must be %q; the region is %d to %d", c, got, before, top, bottom)
			}
		}
	}
}

// On the other screen main goes with its saved place, the other one is cut.
func TestResizeOfTheOtherScreen(t *testing.T) {
	s := made(t, 6, 3, 10, "abcdefghi\x1b[1;5H\x1b[?1049h\x1b[Hmnopqrst")
	expect(t, s, "the other screen", "mnopqr+|st| @2,1")
	s.Resize(4, 2)
	expect(t, s, "is cut", "mnop|st @2,1")
	s.Resize(2, 1)
	expect(t, s, "is cut", "mn @1,0")
	s.Feed([]byte("\x1b[?1049l"))
	expect(t, s, "main is reflowed, and its saved place goes with it", "ab+|cd+/ef+ @0,0")

	s = made(t, 6, 2, 10, "abcdef\x1b[?1049h\x1b[2;6H")
	s.Resize(3, 2)
	s.Feed([]byte("\x1b[?1049l"))
	expect(t, s, "a place that waited waits no more", "abc+|def @2,1")
}

func TestResizeOfWhatIsSaved(t *testing.T) {
	// Main's saved place while main is shown, and the other screen's, are only held to the screen.
	s := made(t, 6, 4, 10, "\x1b[?47h\x1b[4;6Hx\x1b7\x1b[?47l\x1b[3;5H\x1b7\x1b[H")
	s.Resize(5, 2)
	s.Feed([]byte("\x1b8"))
	expect(t, s, "main's", "| @4,1")
	s.Feed([]byte("\x1b[?47h\x1b8"))
	expect(t, s, "the other screen's", "| @4,1")
	s.Feed([]byte("y"))
	expect(t, s, "which waits no more", "|    y @4,1w")

	// No Wait comes back of what is saved, here and there.
	s = made(t, 3, 2, 10, "abc\x1b7\x1b[?47h\x1b[Habc\x1b7\x1b[H")
	s.Resize(3, 2)
	s.Feed([]byte("\x1b8"))
	expect(t, s, "the other screen's", "abc| @2,0")
	s.Feed([]byte("\x1b[?47l\x1b[H\x1b8"))
	expect(t, s, "main's", "abc| @2,0")

	// All else that is saved stays.
	s = made(t, 4, 3, 10, "\x1b[31m\x1b(0\x1b[2;3r\x1b[?6h\x1b[2;2H\x1b7\x1b[m\x1b(B\x1b[?6l")
	s.Resize(3, 3)
	s.Feed([]byte("\x1b8q"))
	expect(t, s, "saved", "|| ─ @2,2")
	if s.Style() != (api.Style{Fg: 1, Bg: -1}) || modesOf(s)&api.ModeOrigin == 0 {
		t.Errorf("the pen is %v, the modes %d", s.Style(), modesOf(s))
	}
}

// columns is where tabs go to, from the first column on.
func columns(s *Screen) (l []int) {
	s.Feed([]byte("\r"))
	last := s.Grid().Cols() - 1
	for x := 0; x < last; {
		s.Feed([]byte("\t"))
		x = s.View().Cursor.X
		l = append(l, x)
	}
	return l
}

func TestResizeOfTabStops(t *testing.T) {
	s := made(t, 20, 2, 0, "\x1b[3g\x1b[4G\x1bH\x1b[13G\x1bH\x1b[20G\x1bH")
	for _, c := range []struct {
		cols int
		want []int
	}{
		{30, []int{3, 12, 19, 24, 29}},
		{15, []int{3, 12, 14}},
		{40, []int{3, 12, 16, 24, 32, 39}},
		{250, append([]int{3, 12}, append(every(16, 248), 249)...)},
		{1, nil},
		{17, []int{8, 16}},
	} {
		s.Resize(c.cols, 2)
		if l := columns(s); !slices.Equal(l, c.want) {
			t.Errorf("%d columns: %v, must be %v", c.cols, l, c.want)
		}
	}
}

// every is each eighth column.
func every(first, last int) (l []int) {
	for x := first; x <= last; x += 8 {
		l = append(l, x)
	}
	return l
}

// N6.4

func TestPrint(t *testing.T) {
	scenes(t, 4, 2, []scene{
		{"", "| @0,0"},
		{"a", "a| @1,0"},
		{"a\u0301b\u200b\u0085c", "abc| @3,0"},
		{"abcdefgh", "abcd+|efgh @3,1w"},
		{"abcdefghi", "abcd+/efgh+|i @1,1"},
		{"中文", "中文| @3,0w"},
		{"中文字", "中文+|字 @2,1"},
		{"a中文", "a中+|文 @2,1"},
		{"abc\x1b[1;1H中", "中c| @2,0"},
		{"中\x1b[1;2Hx", " x| @2,0"},
		{"abcd\x1b[1;4Hx", "abcx| @3,0w"},
		{"abcd\x1b[1;4H中", "abcd+|中 @2,1"},
	})
	scenes(t, 1, 2, []scene{
		{"中", "| @0,0"},
		{"a中", "a| @0,0w"},
		{"ab", "a+|b @0,1w"},
		{"a中\x1b[b", "a+|a @0,1w"},
	})
	scenes(t, 2, 1, []scene{
		{"中", "中 @1,0w"},
		{"中a", "中+/a @1,0"},
		{"a中", "a+/中 @1,0w"},
	})
}

func TestPrintOfWhatIsNoRune(t *testing.T) {
	for _, r := range []rune{-1, math.MinInt32, math.MaxInt32, 0, 31, 127, 159, 0x301, 0x200b, 0xfe0f, 1114112} {
		s := made(t, 4, 2, 0, "ab")
		s.Do(api.Action{Kind: api.ActPrint, Rune: r})
		expect(t, s, fmt.Sprintf("rune %d", r), "ab| @2,0")
		s.Feed([]byte("\x1b[b"))
		expect(t, s, fmt.Sprintf("rune %d isn't repeated", r), "abb| @3,0")
	}
	s := made(t, 4, 2, 0, "abcd")
	s.Do(api.Action{Kind: api.ActPrint, Rune: 0x301})
	expect(t, s, "it still waits", "abcd| @3,0w")
}

func TestPrintWithoutWrap(t *testing.T) {
	scenes(t, 4, 2, []scene{
		{"\x1b[?7labcdef", "abcf| @3,0"},
		{"\x1b[?7labc中", "ab中| @3,0"},
		{"\x1b[?7labc中x", "ab x| @3,0"},
		{"abcd\x1b[?7le", "abce| @3,0"},
		{"abcd\x1b7\x1b[?7l\x1b8", "abcd| @3,0w"},
		{"abcd\x1b7\x1b[?7l\x1b8e", "abce| @3,0"},
		{"abcd\x1b7\x1b[?7l\x1b8中", "ab中| @3,0"},
		{"\x1b[?7labcd\x1b[?7he", "abce| @3,0w"},
		{"\x1b[?7labcd\x1b[?7hef", "abce+|f @1,1"},
	})
}

func TestInsertMode(t *testing.T) {
	scenes(t, 4, 2, []scene{
		{"abc\x1b[4h\x1b[1;2Hx", "axbc| @2,0"},
		{"abcd\x1b[4h\x1b[1;2H中", "a中b| @3,0"},
		{"a中c\x1b[4h\x1b[1;2Hx", "ax中| @2,0"},
		{"a中c\x1b[4h\x1b[1;3Hx", "a x| @3,0"},
		{"abcd\x1b[4hx", "abcd+|x @1,1"},
		{"abcd\x1b[4hx\x1b[4l\ry", "abcd+|y @1,1"},
	})
	s := made(t, 4, 1, 0, "abc\x1b[4;1;31;44mde\x1b[4h\rx")
	expectLetters(t, s, 0, "x(1,4,9)e(1,4,9) (-1,4,0) (-1,4,0)")
	s = made(t, 4, 1, 0, "\x1b[1;31;44m中\x1b[4h\x1b[1;2Hx")
	expectLetters(t, s, 0, " (1,4,1)x(1,4,1) (1,4,1) ")
}

// The styles of what is put, and of the blanks where there was half a wide rune.
func TestPrintWithPen(t *testing.T) {
	s := made(t, 4, 1, 0, "\x1b[1;31;44m中\x1b[4;32mx\x1b[m\ry")
	expectLetters(t, s, 0, "y (1,4,1)x(2,4,9) ")
}

func TestPrintInRegion(t *testing.T) {
	scenes(t, 3, 4, []scene{
		{"\x1b[2;3r\x1b[3;1Habcd", "|abc+|d| @1,2"},
		{"1\r\n2\r\n3\r\n4\x1b[2;3r\x1b[3;1Habcd", "1|abc+|d|4 @1,2"},
		{"\x1b[2;3r\x1b[4;1Habcd", "|||dbc+ @1,3"},
		{"1\r\n2\r\n3\r\n4\x1b[1;2r\x1b[2;1Habcd", "1/abc+|d|3|4 @1,1"},
	})
}

func TestCharsets(t *testing.T) {
	want := []rune{0x25c6, 0x2592, 0x2409, 0x240c, 0x240d, 0x240a, 0xb0, 0xb1, 0x2424, 0x240b, 0x2518, 0x2510, 0x250c, 0x2514, 0x253c, 0x23ba, 0x23bb, 0x2500, 0x23bc, 0x23bd, 0x251c, 0x2524, 0x2534, 0x252c, 0x2502, 0x2264, 0x2265, 0x3c0, 0x2260, 0xa3, 0xb7}
	s := made(t, 40, 1, 0, "\x1b(0")
	for r := rune(96); r < 127; r++ {
		s.Feed([]byte(string(r)))
	}
	if got := s.Rows()[0]; got != string(want) {
		t.Errorf("%q, must be %q", got, string(want))
	}
	for _, r := range want {
		if cell.Width(r) != 1 {
			t.Errorf("%U takes %d columns", r, cell.Width(r))
		}
	}
	scenes(t, 9, 1, []scene{
		{"\x1b(0_A\x7f \xc3\xa0é中", "_A àé中 @7,0"},
		{"q\x1b(0q\x1b(Bq\x1b(0q\x1b(Aq", "q─q─q @5,0"},
		{"\x1b)0q\x0eq\x0fq\x0eq\x1b)Bq\x1b)0q\x1b)Aq", "q─q─q─q @7,0"},
		{"\x1b(0\x0eq\x0fq", "q─ @2,0"},
		{"\x1b(0\x1b(1q\x1b(Cq\x1b)Bq\x1b*Bq\x1bBq", "───── @5,0"},
		{"\x1b(0q\x1b(B\x1b[3bq\x1b(0\x1b[b", "─qqqq─ @6,0"},
	})
}

// N6.5

func TestControls(t *testing.T) {
	scenes(t, 20, 3, []scene{
		{"ab\bc", "ac|| @2,0"},
		{"\b\bx", "x|| @1,0"},
		{"a\tb", "a       b|| @9,0"},
		{"\t\t\t", "|| @19,0"},
		{"\t\t\tx\t", "                   x|| @19,0"},
		{"12345678\tx", "12345678        x|| @17,0"},
		{"1234567\tx", "1234567 x|| @9,0"},
		{"a\nb\vc\fd", "a/ b|  c|   d @4,2"},
		{"ab\rc", "cb|| @1,0"},
		{"ab\r\nc", "ab|c| @1,1"},
		{"\x1b[20hab\nc\vd\fe", "ab/c|d|e @1,2"},
		{"\x1b[20hab\n\x1b[20lc\nd", "ab|c| d @2,2"},
		{"a\x00\x01\x02\x03\x04\x05\x06\x10\x11\x12\x13\x14\x15\x16\x17\x19\x1c\x1d\x1e\x1fb", "ab|| @2,0"},
	})
	scenes(t, 3, 2, []scene{
		{"abc\b", "abc| @1,0"},
		{"abc\t", "abc| @2,0"},
		{"abc\n", "abc| @2,1"},
		{"abc\v", "abc| @2,1"},
		{"abc\f", "abc| @2,1"},
		{"abc\r", "abc| @0,0"},
		{"abc\a\x0e\x0f", "abc| @2,0w"},
		{"abc\x00\x10", "abc| @2,0w"},
	})
	for b := range 256 {
		s := made(t, 4, 2, 0, "a")
		s.Do(api.Action{Kind: api.ActControl, Byte: byte(b)})
		if b != 8 && b != 9 && b != 10 && b != 11 && b != 12 && b != 13 {
			expect(t, s, fmt.Sprintf("control %d", b), "a| @1,0")
		}
		if (s.Bells() == 1) != (b == 7) {
			t.Errorf("control %d: %d bells", b, s.Bells())
		}
	}
}

func TestIndex(t *testing.T) {
	rows := "1\r\n2\r\n3\r\n4"
	scenes(t, 2, 4, []scene{
		{rows + "\n", "1/2|3|4| @1,3"},
		{rows + "\x1b[1;3r\x1b[3;1H\n", "1/2|3||4 @0,2"},
		{rows + "\x1b[2;3r\x1b[3;1H\n", "1|3||4 @0,2"},
		{rows + "\x1b[2;3r\x1b[2;1H\n", "1|2|3|4 @0,2"},
		{rows + "\x1b[2;3r\x1b[4;1H\n", "1|2|3|4 @0,3"},
		{rows + "\x1b[2;3r\x1b[1;1H\n", "1|2|3|4 @0,1"},
		{rows + "\x1b[?47h\x1b[H" + rows + "\n", "2|3|4| @1,3"},
		{rows + "\x1b[2;3r\x1b[2;1H\x1bM", "1||2|4 @0,1"},
		{rows + "\x1b[2;3r\x1b[3;1H\x1bM", "1|2|3|4 @0,1"},
		{rows + "\x1b[2;3r\x1b[1;1H\x1bM", "1|2|3|4 @0,0"},
		{rows + "\x1b[2;3r\x1b[4;1H\x1bM", "1|2|3|4 @0,2"},
		{rows + "\x1b[H\x1bM", "|1|2|3 @0,0"},
	})
	s := made(t, 2, 2, 5, "ab\r\ncd\x1b[1;4;31;44m\n")
	expectLetters(t, s, 1, " (-1,4,0) (-1,4,0)")
	s = made(t, 2, 2, 5, "ab\r\ncd\x1b[1;4;31;44m\x1b[H\x1bM")
	expectLetters(t, s, 0, " (-1,4,0) (-1,4,0)")
}

// N6.6

func TestEscapes(t *testing.T) {
	scenes(t, 4, 3, []scene{
		{"ab\x1bDc", "ab|  c| @3,1"},
		{"ab\x1bEc", "ab|c| @1,1"},
		{"ab\r\ncd\x1bMx", "abx|cd| @3,0"},
		{"ab\x1bMc", "  c|ab| @3,0"},
		{"abcd\x1bD", "abcd|| @3,1"},
		{"abcd\x1bE", "abcd|| @0,1"},
		{"\r\nabcd\x1bM", "|abcd| @3,0"},
		{"ab\x1bH\rx\ty", "xby|| @3,0"},
		{"ab\x1b9\x1bA\x1b\\\x1b~\x1bN", "ab|| @2,0"},
		{"ab\x1b(8\x1b)8\x1b*0\x1b%8\x1b#7\x1b#c\x1b c\x1b((0q", "abq|| @3,0"},
		{"abcd\x1bH\x1b=\x1b>\x1bZ\x1b7\x1b8\x1b(0\x1b)0", "abcd|| @3,0w"},
	})
	answers(t, 4, 2, []scene{{"\x1bZ", "\x1b[?62;c"}, {"\x1b(Z\x1b#Z", ""}})
	s := made(t, 4, 2, 0, "\x1b=")
	if modesOf(s) != api.ModeWrap|api.ModeCursor|api.ModeKeypad {
		t.Errorf("modes %d", modesOf(s))
	}
	s.Feed([]byte("\x1b>"))
	if modesOf(s) != api.ModeWrap|api.ModeCursor {
		t.Errorf("modes %d", modesOf(s))
	}
}

func TestSaveAndRestore(t *testing.T) {
	for _, c := range [][2]string{{"\x1b7", "\x1b8"}, {"\x1b[s", "\x1b[u"}, {"\x1b[?1048h", "\x1b[?1048l"}, {"\x1b7", "\x1b[u"}, {"\x1b[s", "\x1b[?1048l"}} {
		s := made(t, 6, 4, 10, "\x1b[2;3r\x1b[?6h\x1b[1;4m\x1b(0\x1b)0\x1b[2;5H", c[0], "\x1b[m\x1b(B\x1b)B\x0e\x1b[?6l\x1b[Hx", c[1])
		expect(t, s, "restored", "x||| @4,2")
		if s.Style().Attr != api.Bold|api.Under || modesOf(s)&api.ModeOrigin == 0 {
			t.Errorf("%q: the pen is %v, the modes %d", c, s.Style(), modesOf(s))
		}
		s.Feed([]byte("q\x0eq"))
		expect(t, s, "restored", "x||    ──| @5,2w")
		s.Feed([]byte(c[1] + "\x1b[?6l" + c[1] + "\x1b[6n"))
		expect(t, s, "restored twice", "x||    ──| @4,2")
	}
	scenes(t, 3, 2, []scene{
		{"abc\x1b7\x1b[Hx\x1b8", "xbc| @2,0w"},
		{"abc\x1b7\x1b[Hx\x1b8y", "xbc+|y @1,1"},
		{"ab\x1b8x", "xb| @1,0"},
		{"ab\x1b[31m\x1b(0\x1b[?6h\x1b8q", "qb| @1,0"},
		{"a\x1b7\x1b[?47hb\x1b8c\x1b7\x1b[?47l\x1b8d", "ad| @2,0"},
		{"a\x1b7\x1b[?47hbc\x1b7\x1b[?47l\x1b8\x1b[?47h\x1b8", "| @2,0w"},
	})
	s := made(t, 3, 2, 0, "\x1b[31m\x1b7\x1b[?47h\x1b8")
	if s.Style() != plain {
		t.Errorf("the other screen has a Saved of its own: %v", s.Style())
	}
	// What is not saved stays.
	s = made(t, 6, 4, 0, "\x1b7\x1b[2;3r\x1b[4;20h\x1b[?1;1000;2004h\x1b=\x1b[?7;25l\x1b]0;t\a\x1b8")
	top, bottom := s.Region()
	if v := s.View(); v.Modes != api.ModeInsert|api.ModeNew|api.ModeKeys|api.ModeMouse|api.ModeBracket|api.ModeKeypad || v.Title != "t" || top != 1 || bottom != 2 {
		t.Errorf("modes %d, title %q, region %d to %d", v.Modes, v.Title, top, bottom)
	}
}

func TestAlign(t *testing.T) {
	s := made(t, 3, 3, 10, "中abcdef\x1b[2;3r\x1b[1;31;44m\x1b[?6h\x1b[2;3Hx\x1b#8")
	expect(t, s, "aligned", "EEE|EEE|EEE @0,0")
	for y := range 3 {
		expectLetters(t, s, y, "EEE")
	}
	if top, bottom := s.Region(); top != 0 || bottom != 2 {
		t.Errorf("the region is %d to %d", top, bottom)
	}
	if s.Style() != (api.Style{Fg: 1, Bg: 4, Attr: api.Bold}) || modesOf(s)&api.ModeOrigin == 0 {
		t.Errorf("the pen is %v, the modes %d", s.Style(), modesOf(s))
	}
	s.Feed([]byte("\x1b[b"))
	expect(t, s, "what is repeated stays", "xEE|EEE|EEE @1,0")
	scenes(t, 2, 1, []scene{{"ab\x1b#8", "EE @0,0"}, {"ab\x1b[?47hc\x1b#8\x1b[?47l", "ab @0,0"}})
}

// N6.7

func TestCells(t *testing.T) {
	scenes(t, 5, 2, []scene{
		{"abcd\x1b[2G\x1b[@", "a bcd| @1,0"},
		{"abcd\x1b[2G\x1b[0@", "a bcd| @1,0"},
		{"abcd\x1b[2G\x1b[2@", "a  bc| @1,0"},
		{"abcd\x1b[2G\x1b[99@", "a| @1,0"},
		{"abcd\x1b[2G\x1b[P", "acd| @1,0"},
		{"abcd\x1b[2G\x1b[0P", "acd| @1,0"},
		{"abcd\x1b[2G\x1b[2P", "ad| @1,0"},
		{"abcd\x1b[2G\x1b[99P", "a| @1,0"},
		{"abcd\x1b[2G\x1b[X", "a cd| @1,0"},
		{"abcd\x1b[2G\x1b[;9X", "a cd| @1,0"},
		{"abcd\x1b[2G\x1b[2X", "a  d| @1,0"},
		{"abcd\x1b[2G\x1b[99999X", "a| @1,0"},
		{"a中d\x1b[3G\x1b[@", "a   d| @2,0"},
		{"a中d\x1b[3G\x1b[P", "a d| @2,0"},
		{"a中d\x1b[3G\x1b[X", "a  d| @2,0"},
		{"abcde\x1b[@", "abcd| @4,0"},
		{"abcde\x1b[P", "abcd| @4,0"},
		{"abcde\x1b[X", "abcd| @4,0"},
		{"abcdef\x1b[A\x1b[X", "a cde+|f @1,0"},
	})
	for _, c := range []scene{{"@", "a (-1,4,0)bc"}, {"P", "acd (-1,4,0)"}, {"X", "a (-1,4,0)cd"}} {
		s := made(t, 4, 1, 0, "abcd\x1b[1;31;44m\x1b[2G\x1b["+c.bytes)
		expectLetters(t, s, 0, c.want)
	}
}

func TestMoves(t *testing.T) {
	at := "\x1b[3;4H" // 3, 2
	for _, c := range []scene{
		{"A", "3,1"}, {"0A", "3,1"}, {"2A", "3,0"}, {"9A", "3,0"}, {";5A", "3,1"},
		{"B", "3,3"}, {"0B", "3,3"}, {"2B", "3,4"}, {"99B", "3,5"}, {"e", "3,3"}, {"2e", "3,4"},
		{"C", "4,2"}, {"0C", "4,2"}, {"3C", "6,2"}, {"99999C", "9,2"}, {"a", "4,2"}, {"4a", "7,2"},
		{"D", "2,2"}, {"0D", "2,2"}, {"3D", "0,2"}, {"9999D", "0,2"},
		{"E", "0,3"}, {"2E", "0,4"}, {"0E", "0,3"}, {"F", "0,1"}, {"2F", "0,0"}, {"0F", "0,1"}, {"9F", "0,0"}, {"9E", "0,5"},
		{"G", "0,2"}, {"0G", "0,2"}, {"5G", "4,2"}, {"99G", "9,2"}, {"`", "0,2"}, {"7`", "6,2"},
		{"d", "3,0"}, {"0d", "3,0"}, {"2d", "3,1"}, {"99d", "3,5"},
		{"H", "0,0"}, {"f", "0,0"}, {"0;0H", "0,0"}, {"2H", "0,1"}, {"2f", "0,1"}, {";5H", "4,0"}, {"2;5H", "4,1"}, {"2;5f", "4,1"}, {"99;99H", "9,5"}, {"99999;99999H", "9,5"}, {"2;5;7H", "4,1"},
		{"I", "8,2"}, {"0I", "8,2"}, {"2I", "9,2"}, {"9999I", "9,2"}, {"Z", "0,2"}, {"2Z", "0,2"},
	} {
		s := made(t, 10, 6, 0, at+"\x1b["+c.bytes)
		expect(t, s, c.bytes, "||||| @"+c.want)
	}
	for _, final := range "ABCDEFG`dHfIZea" {
		s := made(t, 4, 2, 0, "abcd\x1b[9"+string(final))
		if c := s.View().Cursor; c.Wait {
			t.Errorf("%c: it still waits", final)
		}
	}
}

func TestMovesAndTheRegion(t *testing.T) {
	region := "\x1b[3;5r" // of 8 rows
	for _, c := range []scene{
		{"\x1b[4;2H\x1b[9A", "1,2"}, {"\x1b[3;2H\x1b[9A", "1,2"}, {"\x1b[2;2H\x1b[A", "1,0"}, {"\x1b[2;2H\x1b[9A", "1,0"}, {"\x1b[7;2H\x1b[9A", "1,2"}, {"\x1b[7;2H\x1b[A", "1,5"},
		{"\x1b[4;2H\x1b[9B", "1,4"}, {"\x1b[5;2H\x1b[9B", "1,4"}, {"\x1b[6;2H\x1b[B", "1,6"}, {"\x1b[6;2H\x1b[9B", "1,7"}, {"\x1b[1;2H\x1b[9B", "1,4"}, {"\x1b[1;2H\x1b[B", "1,1"}, {"\x1b[1;2H\x1b[9e", "1,4"},
		{"\x1b[4;2H\x1b[9F", "0,2"}, {"\x1b[2;2H\x1b[9F", "0,0"}, {"\x1b[4;2H\x1b[9E", "0,4"}, {"\x1b[6;2H\x1b[9E", "0,7"},
	} {
		s := made(t, 3, 8, 0, region+c.bytes)
		expect(t, s, c.bytes, "||||||| @"+c.want)
	}
}

// LINE: rows with ModeOrigin.
func TestOrigin(t *testing.T) {
	region := "\x1b[3;5r\x1b[?6h" // of 8 rows
	for _, c := range []scene{
		{"", "0,2"}, {"\x1b[H", "0,2"}, {"\x1b[2;2H", "1,3"}, {"\x1b[3;2f", "1,4"}, {"\x1b[9;2H", "1,4"}, {"\x1b[9999;9999H", "2,4"},
		{"\x1b[2d", "0,3"}, {"\x1b[d", "0,2"}, {"\x1b[99d", "0,4"}, {"\x1b[2;2H\x1b[?6l", "0,0"}, {"\x1b[2;2H\x1b[?6h", "0,2"},
		{"\x1b[4;6r", "0,3"}, {"\x1b[r", "0,0"}, {"\x1b[?6l\x1b[2;2H\x1b[4;6r", "0,0"},
		{"\x1b[2G", "1,2"}, {"\x1b[9A", "0,2"}, {"\x1b[9B", "0,4"},
	} {
		s := made(t, 3, 8, 0, region+c.bytes)
		expect(t, s, c.bytes, "||||||| @"+c.want)
	}
	above := "\x1b[2;2H\x1b[?6h\x1b[H\x1b7\x1b[4;5r\x1b8" // saved in row 0, the region then 3 to 4
	answers(t, 3, 8, []scene{
		{region + "\x1b[2;2H\x1b[6n", "\x1b[2;2R"},
		{region + "\x1b[6n", "\x1b[1;1R"},
		{above + "\x1b[6n", "\x1b[1;1R"},
		{"\x1b[?6h\x1b[8;2H\x1b7\x1b[4;5r\x1b8\x1b[6n", "\x1b[5;2R"},
		{region + "\x1b[?6l\x1b[2;2H\x1b[6n", "\x1b[2;2R"},
	})
	// What has nothing to do with LINE moves out of it as it would.
	s := made(t, 3, 8, 0, above+"\x1b[2G")
	expect(t, s, "out of the region", "||||||| @1,0")
	s.Feed([]byte("\x1b[B"))
	expect(t, s, "out of the region", "||||||| @1,1")
	s.Feed([]byte("\x1b[2d"))
	expect(t, s, "into the region", "||||||| @1,4")
}

func TestRegion(t *testing.T) {
	for _, c := range []struct {
		bytes       string
		top, bottom int
		moved       bool
	}{
		{"r", 0, 5, true}, {"2;4r", 1, 3, true}, {"2r", 1, 5, true}, {";4r", 0, 3, true}, {"0;0r", 0, 5, true}, {"2;0r", 1, 5, true}, {"2;99r", 1, 5, true}, {"5;6r", 4, 5, true},
		{"4;4r", 2, 4, false}, {"5;2r", 2, 4, false}, {"6r", 2, 4, false}, {"6;6r", 2, 4, false}, {"7;99r", 2, 4, false}, {"99999;99999r", 2, 4, false}, {"1;1r", 2, 4, false}, {"0;1r", 2, 4, false},
	} {
		s := made(t, 3, 6, 0, "\x1b[3;5r\x1b[3;3Hx\x1b["+c.bytes)
		top, bottom := s.Region()
		if top != c.top || bottom != c.bottom {
			t.Errorf("%q: %d to %d, must be %d to %d", c.bytes, top, bottom, c.top, c.bottom)
		}
		want := "||  x||| @2,2w"
		if c.moved {
			want = "||  x||| @0,0"
		}
		expect(t, s, c.bytes, want)
	}
	s := made(t, 3, 1, 0, "ab\x1b[r\x1b[1;1r\x1b[0;5r")
	expect(t, s, "one row", "ab @2,0")
}

func TestEraseInRow(t *testing.T) {
	at := "abcdefghij\x1b[2;3H" // rows abcd+, efgh+, ij
	scenes(t, 4, 3, []scene{
		{at + "\x1b[K", "abcd+|ef|ij @2,1"},
		{at + "\x1b[0K", "abcd+|ef|ij @2,1"},
		{at + "\x1b[1K", "abcd+|   h+|ij @2,1"},
		{at + "\x1b[2K", "abcd+||ij @2,1"},
		{at + "\x1b[3K", "abcd+|efgh+|ij @2,1"},
		{at + "\x1b[9999K", "abcd+|efgh+|ij @2,1"},
		{at + "\x1b[;2K", "abcd+|ef|ij @2,1"},
		{at + "\x1b[4G\x1b[1K", "abcd+|+|ij @3,1"},
		{at + "\x1b[1G\x1b[1K", "abcd+| fgh+|ij @0,1"},
		{at + "\x1b[1G\x1b[K", "abcd+||ij @0,1"},
		{"中文\x1b[2G\x1b[K", "|| @1,0"},
		{"中文\x1b[3G\x1b[K", "中|| @2,0"},
		{"中文\x1b[3G\x1b[1K", "|| @2,0"},
		{"中文\x1b[2G\x1b[1K", "  文|| @1,0"},
		{"abcd\x1b[K", "abc|| @3,0"},
		{"abcd\x1b[1K", "|| @3,0"},
		{"abcd\x1b[2K", "|| @3,0"},
		{"abcd\x1b[7K", "abcd|| @3,0"},
	})
	for _, c := range []scene{{"0", "ab (-1,4,0) (-1,4,0)"}, {"1", " (-1,4,0) (-1,4,0) (-1,4,0)d"}, {"2", strings.Repeat(" (-1,4,0)", 4)}} {
		s := made(t, 4, 1, 0, "abcd\x1b[1;31;44m\x1b[3G\x1b["+c.bytes+"K")
		expectLetters(t, s, 0, c.want)
	}
}

func TestEraseRows(t *testing.T) {
	at := "xy\r\nabcdefghijklm\x1b[2;3H" // rows abcd+, efgh+, ijkl+, m; xy has scrolled off
	scenes(t, 4, 4, []scene{
		{at, "xy/abcd+|efgh+|ijkl+|m @2,1"},
		{at + "\x1b[J", "xy/abcd+|ef|| @2,1"},
		{at + "\x1b[0J", "xy/abcd+|ef|| @2,1"},
		{at + "\x1b[1J", "xy/|   h+|ijkl+|m @2,1"},
		{at + "\x1b[2J", "xy/||| @2,1"},
		{at + "\x1b[3J", "abcd+|efgh+|ijkl+|m @2,1"},
		{at + "\x1b[4J", "xy/abcd+|efgh+|ijkl+|m @2,1"},
		{at + "\x1b[4;1H\x1b[J", "xy/abcd+|efgh+|ijkl+| @0,3"},
		{at + "\x1b[1;1H\x1b[1J", "xy/ bcd+|efgh+|ijkl+|m @0,0"},
		{at + "\x1b[2;3r\x1b[2J", "xy/||| @0,0"},
		{at + "\x1b[?47h\x1b[3J\x1b[?47l", "abcd+|efgh+|ijkl+|m @2,1"},
		{"abcd\x1b[J", "abc||| @3,0"},
		{"abcd\x1b[1J", "||| @3,0"},
		{"abcd\x1b[2J", "||| @3,0"},
		{"abcd\x1b[3J", "abcd||| @3,0"},
		{"abcd\x1b[8J", "abcd||| @3,0"},
	})
	blank := " (-1,4,0) (-1,4,0)"
	for _, c := range [][4]string{{"0", "ab", "c (-1,4,0)", blank}, {"1", blank, blank, "ef"}, {"2", blank, blank, blank}} {
		s := made(t, 2, 3, 0, "abcdef\x1b[1;31;44m\x1b[2;2H\x1b["+c[0]+"J")
		for y := range 3 {
			expectLetters(t, s, y, c[y+1])
		}
	}
}

func TestInsertAndDeleteRows(t *testing.T) {
	at := "a\r\nb\r\nc\r\nd\x1b[2;3r\x1b[2;2H" // the region is b and c
	scenes(t, 3, 4, []scene{
		{at + "\x1b[L", "a||b|d @0,1"},
		{at + "\x1b[0L", "a||b|d @0,1"},
		{at + "\x1b[2L", "a|||d @0,1"},
		{at + "\x1b[99L", "a|||d @0,1"},
		{at + "\x1b[M", "a|c||d @0,1"},
		{at + "\x1b[0M", "a|c||d @0,1"},
		{at + "\x1b[99M", "a|||d @0,1"},
		{at + "\x1b[3;2H\x1b[L", "a|b||d @0,2"},
		{at + "\x1b[3;2H\x1b[M", "a|b||d @0,2"},
		{at + "\x1b[1;2H\x1b[L", "a|b|c|d @1,0"},
		{at + "\x1b[1;2H\x1b[M", "a|b|c|d @1,0"},
		{at + "\x1b[4;2H\x1b[L", "a|b|c|d @1,3"},
		{at + "\x1b[4;2H\x1b[M", "a|b|c|d @1,3"},
		{at + "\x1b[r\x1b[2M", "c|d|| @0,0"},
		{at + "\x1b[r\x1b[2L", "||a|b @0,0"},
		{at + "\x1b[2;1Hxyz\x1b[L", "a||xyz|d @0,1"},
		{at + "\x1b[2;1Hxyz\x1b[M", "a|c||d @0,1"},
		{at + "\x1b[4;1Hxyz\x1b[L", "a|b|c|xyz @2,3w"},
		{at + "\x1b[4;1Hxyz\x1b[M", "a|b|c|xyz @2,3w"},
	})
	for _, c := range []scene{{"L", "@0"}, {"M", "@1"}} {
		s := made(t, 2, 2, 0, "ab\r\ncd\x1b[1;31;44m\x1b[H\x1b["+c.bytes)
		expectLetters(t, s, int(c.want[1]-'0'), " (-1,4,0) (-1,4,0)")
	}
}

func TestScroll(t *testing.T) {
	at := "a\r\nb\r\nc\r\nd\x1b[1;2H"
	scenes(t, 3, 4, []scene{
		{at + "\x1b[S", "a/b|c|d| @1,0"},
		{at + "\x1b[0S", "a/b|c|d| @1,0"},
		{at + "\x1b[3S", "a|b|c/d||| @1,0"},
		{at + "\x1b[99S", "a|b|c|d/||| @1,0"},
		{at + "\x1b[1;2r\x1b[S", "a/b||c|d @0,0"},
		{at + "\x1b[2;3r\x1b[S", "a|c||d @0,0"},
		{at + "\x1b[2;3r\x1b[9S", "a|||d @0,0"},
		{at + "\x1b[T", "|a|b|c @1,0"},
		{at + "\x1b[0T", "|a|b|c @1,0"},
		{at + "\x1b[3T", "|||a @1,0"},
		{at + "\x1b[99T", "||| @1,0"},
		{at + "\x1b[2;3r\x1b[T", "a||b|d @0,0"},
		{at + "\x1b[?47hx\x1b[S", "||| @2,0"},
		{at + "\x1b[?47hx\x1b[S\x1b[?47l", "a|b|c|d @2,0"},
		{at + "xyz\x1b[S", "axy+/z|c|d| @1,1"},
		{at + "\x1b[Habc\x1b[S", "abc/b|c|d| @2,0w"},
		{at + "\x1b[Habc\x1b[T", "|abc|b|c @2,0w"},
	})
	for _, c := range []scene{{"S", "1"}, {"T", "0"}} {
		s := made(t, 2, 2, 0, "ab\r\ncd\x1b[1;31;44m\x1b["+c.bytes)
		expectLetters(t, s, int(c.want[0]-'0'), " (-1,4,0) (-1,4,0)")
	}
}

func TestRepeat(t *testing.T) {
	scenes(t, 4, 2, []scene{
		{"\x1b[3b", "| @0,0"},
		{"a\x1b[b", "aa| @2,0"},
		{"a\x1b[0b", "aa| @2,0"},
		{"a\x1b[2b", "aaa| @3,0"},
		{"a\x1b[5b", "aaaa+|aa @2,1"},
		{"中\x1b[2b", "中中+|中 @2,1"},
		{"ab\r\x1b[1;2H\x1b[b", "ab| @2,0"},
		{"ab\u0301\x1b[b", "abb| @3,0"},
		{"a\x1b[?47h\x1b[b\x1b[?47l", "a| @2,0"},
		{"a\x1b[31m\x1b7\x1b8\x1b[!p\x1b[b", "aa| @2,0"},
		{"a\x1bc\x1b[b", "| @0,0"},
		{"a\x1b[4h\x1b[1G\x1b[b", "aa| @1,0"},
	})
	s := made(t, 3, 1, 10, "a\x1b[31m\x1b[b")
	expectLetters(t, s, 0, "aa(1,-1,0) ")
	s = made(t, 250, 120, 10, "a\x1b[99999b") // 9999 times: 40 rows are full
	if c := s.View().Cursor; c.X != 249 || c.Y != 39 || !c.Wait {
		t.Errorf("the cursor is %+v", c)
	}
	s = made(t, 4, 2, 10, "中")
	s.Resize(1, 2)
	s.Feed([]byte("\x1b[3b"))
	expect(t, s, "a wide one has no room", "+| @0,1")
}

func TestAnswers(t *testing.T) {
	answers(t, 4, 3, []scene{
		{"\x1b[c", "\x1b[?62;c"},
		{"\x1b[0c\x1b[0;1c", "\x1b[?62;c\x1b[?62;c"},
		{"\x1b[1c\x1b[9999c\x1b[1;0c", ""},
		{"\x1b[>c\x1b[>0c", "\x1b[>0;10;0c\x1b[>0;10;0c"},
		{"\x1b[>1c\x1b[=c\x1b[?c\x1b[!c", ""},
		{"\x1b[5n\x1b[5;6n", "\x1b[0n\x1b[0n"},
		{"\x1b[6n", "\x1b[1;1R"},
		{"abcd\x1b[6n", "\x1b[1;4R"},
		{"abcde\x1b[6n", "\x1b[2;2R"},
		{"\x1b[2;3r\x1b[3;2H\x1b[6n", "\x1b[3;2R"},
		{"\x1b[n\x1b[0n\x1b[1n\x1b[7n\x1b[;5n\x1b[?6n\x1b[>5n", ""},
		{"ab\x1b[H\x1b[2J\x1b[m\x1b[99~\x07\x1b[1;2r\x1b7\x1b8\x1b[?25l\x1b]0;t\a", ""},
	})
}

func TestTabStops(t *testing.T) {
	scenes(t, 30, 1, []scene{
		{"\x1b[I", " @8,0"},
		{"\x1b[2I", " @16,0"},
		{"\x1b[3I", " @24,0"},
		{"\x1b[4I", " @29,0"},
		{"\x1b[20G\x1b[Z", " @16,0"},
		{"\x1b[20G\x1b[2Z", " @8,0"},
		{"\x1b[20G\x1b[3Z", " @0,0"},
		{"\x1b[17G\x1b[Z", " @8,0"},
		{"\x1b[17G\x1b[I", " @24,0"},
		{"\x1b[9G\x1b[g\r\t", " @16,0"},
		{"\x1b[9G\x1b[0g\r\t", " @16,0"},
		{"\x1b[8G\x1b[g\r\t", " @8,0"},
		{"\x1b[9G\x1b[1g\x1b[2g\x1b[4g\r\t", " @8,0"},
		{"\x1b[9G\x1b[3g\r\t", " @29,0"},
		{"\x1b[3g\x1b[5G\x1bH\x1b[7G\x1bH\r\x1b[2I", " @6,0"},
		{"\x1b[3g\x1b[5G\x1bH\x1b[9G\x1b[Z", " @4,0"},
		{"\x1bH\x1b[5G\x1b[Z\x1b[Z", " @0,0"},
		{"\x1b[5G\x1bH\x1b[?47h\r\t", " @4,0"},
		{"\x1b[5G\x1bH\x1b[!p\r\t", " @4,0"},
		{"\x1b[5G\x1bH\x1bc\t", " @8,0"},
	})
	s := made(t, 3, 1, 0, "abc\x1b[g")
	expect(t, s, "it still waits", "abc @2,0w")
}

func TestModes(t *testing.T) {
	start := api.ModeWrap | api.ModeCursor
	for _, c := range []struct {
		bytes string
		want  int
	}{
		{"\x1b[4h", start | api.ModeInsert}, {"\x1b[20h", start | api.ModeNew}, {"\x1b[4;20h", start | api.ModeInsert | api.ModeNew}, {"\x1b[4;20h\x1b[4l", start | api.ModeNew}, {"\x1b[4;20h\x1b[;20l", start | api.ModeInsert},
		{"\x1b[?1h", start | api.ModeKeys}, {"\x1b[?1h\x1b[?1l", start}, {"\x1b[?6h", start | api.ModeOrigin}, {"\x1b[?6h\x1b[?6l", start}, {"\x1b[?7l", api.ModeCursor}, {"\x1b[?7l\x1b[?7h", start}, {"\x1b[?25l", api.ModeWrap}, {"\x1b[?25l\x1b[?25h", start},
		{"\x1b[?47h", start | api.ModeAlt}, {"\x1b[?1047h", start | api.ModeAlt}, {"\x1b[?1049h", start | api.ModeAlt}, {"\x1b[?47h\x1b[?1047l", start}, {"\x1b[?1047h\x1b[?47l", start}, {"\x1b[?47h\x1b[?1049l", start}, {"\x1b[?1048h", start}, {"\x1b[?1048l", start},
		{"\x1b[?1000h", start | api.ModeMouse}, {"\x1b[?1000h\x1b[?1000l", start}, {"\x1b[?2004h", start | api.ModeBracket}, {"\x1b[?2004h\x1b[?2004l", start},
		{"\x1b[?1;;2004;7;1000l\x1b[?1;;2004;1000h", api.ModeCursor | api.ModeKeys | api.ModeBracket | api.ModeMouse},
		{"\x1b[h\x1b[?h\x1b[0h\x1b[?0h\x1b[;h\x1b[?;h\x1b[1;7;25;1000l\x1b[?4;20h\x1b[2h\x1b[?2;3;5;8;12;66;1001;1006h", start},
		{"\x1b[>4h\x1b[!4h\x1b[4$h\x1b[=1h\x1b[?1$h\x1b[?1!l\x1b[ 4h", start},
	} {
		s := made(t, 4, 3, 0, c.bytes)
		if got := modesOf(s); got != c.want {
			t.Errorf("%q: modes %d, must be %d", c.bytes, got, c.want)
		}
	}
	scenes(t, 3, 2, []scene{
		{"abc\x1b[?7l", "abc| @2,0"},
		{"abc\x1b[?7h", "abc| @2,0w"},
		{"abc\x1b[?1h\x1b[?25l\x1b[?1000h\x1b[?2004h\x1b[4h\x1b[20h\x1b=", "abc| @2,0w"},
		{"abc\x1b[?6h", "abc| @0,0"},
		{"abc\x1b[?1048hd\x1b[?1048l", "abc+|d @2,0w"},
		{"ab\x1b[?1048h\x1b[?7;25;1048l", "ab| @2,0"},
	})
}

func TestTheOtherScreen(t *testing.T) {
	scenes(t, 4, 3, []scene{
		{"ab\x1b[?47h", "|| @2,0"},
		{"ab\x1b[?47hc", "  c|| @3,0"},
		{"ab\x1b[?47hc\x1b[?47l", "ab|| @3,0"},
		{"ab\x1b[?47hc\x1b[?47l\x1b[?47h", "|| @3,0"},
		{"ab\x1b[?47hc\x1b[?47h\x1b[?1047hd", "  cd|| @3,0w"},
		{"ab\x1b[?47hc\x1b[?1049h", "  c|| @3,0"},
		{"ab\x1b[?1047hc\x1b[?1047l\x1b[?47l", "ab|| @3,0"},
		{"ab\x1b[?1049hc\x1b[?1049l", "ab|| @2,0"},
		{"ab\x1b[?1049h\x1b[2;2H\x1b[?1049h\x1b[H\x1b8", "|| @1,1"},
		{"ab\x1b[?1049h\x1b[2;2H\x1b[?1049h\x1b[?1049l", "ab|| @2,0"},
		{"ab\x1b7cd\x1b[?1049l", "abcd|| @2,0"},
		{"abcd\x1b[?47h", "|| @3,0"},
		{"abcd\x1b[?47l", "abcd|| @3,0w"},
		{"abcd\x1b[?1049h\x1b[?1049l", "abcd|| @3,0w"},
		{"abcd\x1b[?47h\x1b[?47l", "abcd|| @3,0"},
		{"ab\x1b[?47h\x1b[Habcd\x1b[?47l", "ab|| @3,0"},
		{"ab\x1b[?47h\x1b[Habcd\x1b[?47h", "abcd|| @3,0w"},
		{"ab\r\nc\r\nd\x1b[?47h\x1b[H\x1b[2J\x1b[L\x1b[3M\x1b#8\x1b[9S\n\n\n\n\x1b[9T\x1b[?47l", "ab|c|d @0,2"},
	})
	s := made(t, 4, 3, 0, "\x1b[1;31;44mab\x1b[?47h")
	for y := range 3 {
		expectLetters(t, s, y, "    ")
	}
	if s.Style() != (api.Style{Fg: 1, Bg: 4, Attr: api.Bold}) {
		t.Errorf("the pen is %v", s.Style())
	}
	for _, c := range []struct {
		bytes       string
		top, bottom int
	}{
		{"\x1b[2;3r\x1b[?47h", 0, 2}, {"\x1b[?47h\x1b[2;3r\x1b[?47l", 0, 2}, {"\x1b[2;3r\x1b[?47l", 1, 2}, {"\x1b[?47h\x1b[2;3r\x1b[?1047h", 1, 2}, {"\x1b[2;3r\x1b[?1049l", 1, 2}, {"\x1b[2;3r\x1b[?1049h", 0, 2},
	} {
		s := made(t, 4, 3, 0, c.bytes)
		if top, bottom := s.Region(); top != c.top || bottom != c.bottom {
			t.Errorf("%q: the region is %d to %d", c.bytes, top, bottom)
		}
	}
}

func TestSoftReset(t *testing.T) {
	s := made(t, 20, 4, 5, "a\r\nb\r\nc\r\nd\r\n", used, "\x1b[2;3r\x1b[4;20h\x1b[2;2H\x1b7\x1b[!p")
	start := api.ModeWrap | api.ModeCursor | api.ModeBracket | api.ModeMouse | api.ModeNew | api.ModeAlt
	if v := s.View(); v.Modes != start || v.Title != "t" {
		t.Errorf("modes %d, must be %d; title %q", v.Modes, start, v.Title)
	}
	if top, bottom := s.Region(); top != 0 || bottom != 3 || s.Style() != plain {
		t.Errorf("the region is %d to %d, the pen %v", top, bottom, s.Style())
	}
	if c := s.View().Cursor; c.X != 1 || c.Y != 2 {
		t.Errorf("the cursor is %+v", c)
	}
	s.Feed([]byte("\r\t"))
	if x := s.View().Cursor.X; x != 19 {
		t.Errorf("tab stops are back: %d", x)
	}
	s.Feed([]byte("\x1b[2J\x1b8q\x0eq\x0f\x1b[b"))
	expect(t, s, "plain charsets, the first at hand; Saved as new", "qqq||| @3,0")
	s.Feed([]byte("\x1b[?47l\x1b8"))
	if s.Style() != (api.Style{Fg: 3, Bg: 4, Attr: api.Bold}) || modesOf(s)&api.ModeOrigin == 0 {
		t.Errorf("main's Saved is gone: %v, modes %d", s.Style(), modesOf(s))
	}
	scenes(t, 3, 2, []scene{
		{"abc\x1b[!p", "abc| @2,0"},
		{"abc\x1b7\x1b[!px\x1b8", "abx| @0,0"},
		{"abc\x1b[p\x1b[?p\x1b[>p\x1b[!!p\x1b[!q", "abc| @2,0w"},
		{"\x1b(0\x1b[!pq", "q| @1,0"},
		{"\x1b)0\x0e\x1b[!pq\x0eq", "qq| @2,0"},
		{"\x1b[?7l\x1b[!pabcd", "abc+|d @1,1"},
		{"\x1b[?47habc\x1b7\x1b[!p\x1b[?47lx", "  x| @2,0w"},
	})
}

// looked is the pen behind a sequence m of those numbers, ahead of which it was another one.
func looked(t *testing.T, was, numbers string) api.Style {
	t.Helper()
	return made(t, 4, 2, 0, "\x1b["+was+"m\x1b["+numbers+"m").Style()
}

func TestLooks(t *testing.T) {
	bits := map[int]int{1: api.Bold, 2: api.Dim, 3: api.Italic, 4: api.Under, 5: api.Blink, 7: api.Reverse, 8: api.Hidden, 9: api.Strike}
	off := map[int]int{22: api.Bold | api.Dim, 23: api.Italic, 24: api.Under, 25: api.Blink, 27: api.Reverse, 28: api.Hidden, 29: api.Strike}
	const all = "1;2;3;4;5;7;8;9;31;44"
	for n := range 260 {
		bare, full := plain, api.Style{Fg: 1, Bg: 4, Attr: 255}
		stays := n != 0 && n != 38 && n != 48
		bare.Attr |= bits[n]
		full.Attr &^= off[n]
		switch {
		case n == 0:
			full = plain
		case n >= 30 && n <= 37:
			bare.Fg, full.Fg = n-30, n-30
		case n >= 90 && n <= 97:
			bare.Fg, full.Fg = n-82, n-82
		case n == 39:
			full.Fg = -1
		case n >= 40 && n <= 47:
			bare.Bg, full.Bg = n-40, n-40
		case n >= 100 && n <= 107:
			bare.Bg, full.Bg = n-92, n-92
		case n == 49:
			full.Bg = -1
		}
		number := fmt.Sprint(n)
		if got := looked(t, "", number); got != bare {
			t.Errorf("%d from plain: %v, must be %v", n, got, bare)
		}
		if got := looked(t, all, number); got != full {
			t.Errorf("%d from %s: %v, must be %v", n, all, got, full)
		}
		if got := looked(t, all, number+";39;49"); stays && (got.Fg != -1 || got.Bg != -1) {
			t.Errorf("what is behind %d is not done: %v", n, got)
		}
	}
}

func TestColoursOfNumbers(t *testing.T) {
	for c := range 256 {
		if got := looked(t, "", fmt.Sprintf("38;5;%d;48;5;%d;1", c, 255-c)); got != (api.Style{Fg: c, Bg: 255 - c, Attr: api.Bold}) {
			t.Errorf("%d: %v", c, got)
		}
		if got := looked(t, "", fmt.Sprintf("48;2;%d;1;2;38;2;3;%d;%d;4", c, c, 255-c)); got != (api.Style{Fg: api.RGB + 3*65536 + c*256 + 255 - c, Bg: api.RGB + c*65536 + 258, Attr: api.Under}) {
			t.Errorf("%d: %v", c, got)
		}
	}
	red := api.Style{Fg: 1, Bg: 4, Attr: api.Italic}
	for numbers, want := range map[string]api.Style{
		"":              plain,
		";1":            {Fg: -1, Bg: -1, Attr: api.Bold},
		"1;":            plain,
		"38;5;":         {Fg: 0, Bg: 4, Attr: api.Italic},
		"48;5;":         {Fg: 1, Bg: 0, Attr: api.Italic},
		"38;2;;;":       {Fg: api.RGB, Bg: 4, Attr: api.Italic},
		"48;2;;;7;1":    {Fg: 1, Bg: api.RGB + 7, Attr: api.Italic | api.Bold},
		"38":            red,
		"48":            red,
		"38;1":          red,
		"38;;1":         red,
		"38;5":          red,
		"38;5;256":      red,
		"38;5;256;1":    red,
		"48;5;9999;1":   red,
		"38;2;1;2":      red,
		"38;2;256;1;1":  red,
		"38;2;1;256;1":  red,
		"38;2;1;1;256":  red,
		"38;3;1;1;1;1":  red,
		"48;3;1;1;1;1":  red,
		"1;38;5":        {Fg: 1, Bg: 4, Attr: api.Italic | api.Bold},
		"1;48;2;1;1;1":  {Fg: 1, Bg: api.RGB + 65793, Attr: api.Italic | api.Bold},
		"38;5;7;48;9;1": {Fg: 7, Bg: 4, Attr: api.Italic},
		"38;5;38;1":     {Fg: 38, Bg: 4, Attr: api.Italic | api.Bold},
		"38;2;2;2;2;2":  {Fg: api.RGB + 131586, Bg: 4, Attr: api.Italic | api.Dim},
		"9999;1":        {Fg: 1, Bg: 4, Attr: api.Italic | api.Bold},
	} {
		if got := looked(t, "3;31;44", numbers); got != want {
			t.Errorf("%q: %v, must be %v", numbers, got, want)
		}
	}
}

// Numbers, and more of them, than any parser tells.
func TestParametersThatNoParserTells(t *testing.T) {
	csi := func(b byte, l ...int) api.Action { return api.Action{Kind: api.ActCsi, Byte: b, Params: l} }
	for _, c := range []struct {
		a    api.Action
		want string
	}{
		{csi('C', math.MinInt), "abc|| @2,0"}, {csi('C', -5), "abc|| @2,0"}, {csi('C', math.MaxInt), "abc|| @3,0"}, {csi('B', math.MaxInt), "abc|| @1,2"}, {csi('D', math.MaxInt), "abc|| @0,0"},
		{csi('A', math.MaxInt), "abc|| @1,0"}, {csi('H', math.MaxInt, math.MaxInt), "abc|| @3,2"}, {csi('H', math.MinInt, 3), "abc|| @2,0"}, {csi('P', math.MaxInt), "a|| @1,0"}, {csi('@', math.MaxInt), "a|| @1,0"},
		{csi('X', math.MaxInt), "a|| @1,0"}, {csi('X', math.MinInt), "a c|| @1,0"}, {csi('J', -3), "a|| @1,0"}, {csi('K', -3), "a|| @1,0"}, {csi('I', math.MaxInt), "abc|| @3,0"}, {csi('Z', math.MaxInt), "abc|| @0,0"},
		{csi('r', math.MinInt, math.MaxInt), "abc|| @0,0"}, {csi('S', math.MaxInt), "abc||/|| @1,0"}, {csi('T', math.MaxInt), "|| @1,0"}, {csi('L', math.MaxInt), "|| @0,0"}, {csi('M', math.MaxInt), "|| @0,0"}, {csi('c', -1), "abc|| @1,0"},
	} {
		s := made(t, 4, 3, 10, "abc\x1b[2G")
		s.Do(c.a)
		expect(t, s, fmt.Sprintf("%+v", c.a), c.want)
	}
	s := made(t, 4, 3, 0)
	s.Do(csi('m', append(make([]int, 100), 1, -9, 4, 38, 5, -9)...))
	if s.Style() != (api.Style{Fg: 0, Bg: -1, Attr: api.Under}) {
		t.Errorf("the pen is %v", s.Style())
	}
	s.Do(api.Action{Kind: api.ActCsi, Byte: 'h', Inter: "?", Params: append(make([]int, 100), 1)})
	if modesOf(s)&api.ModeKeys == 0 {
		t.Errorf("modes %d", modesOf(s))
	}
	s.Do(csi('m', 1<<40, math.MaxInt))
	s.Do(api.Action{Kind: api.ActCsi, Byte: 'h', Inter: "?", Params: []int{math.MinInt, 1<<32 + 6, math.MaxInt}})
	if s.Style() != (api.Style{Fg: 0, Bg: -1, Attr: api.Under}) || modesOf(s)&api.ModeOrigin != 0 {
		t.Errorf("the pen is %v, the modes %d", s.Style(), modesOf(s))
	}
}

// A final byte with anything between that the chapter doesn't name does nothing, nor do other final bytes.
func TestSequencesThatAreNone(t *testing.T) {
	named := map[string]string{"": "@PXABeCaDEFG`dHfIZKJLMSTbcnghlmrsu", "?": "hl", "!": "p", ">": "c"}
	for _, inter := range []string{"", "?", "!", ">", "<", "=", " ", "$", "??", "?!", "h", "\x00"} {
		for b := range 256 {
			if strings.IndexByte(named[inter], byte(b)) >= 0 {
				continue
			}
			s := made(t, 4, 3, 10, "x\x1b[2;3r\x1b[2;1Habcd")
			before := s.View()
			a := s.Do(api.Action{Kind: api.ActCsi, Byte: byte(b), Inter: inter, Params: []int{1, 1049}})
			if after := s.View(); len(a) != 0 || fmt.Sprint(before) != fmt.Sprint(after) || s.Style() != plain {
				t.Errorf("%q %q: %v, must be %v; answers %q", inter, byte(b), after, before, a)
			}
		}
	}
}

// N6.8

func TestTitle(t *testing.T) {
	for _, c := range []scene{
		{"\x1b]0;hi\a", "hi"}, {"\x1b]2;hi\x1b\\", "hi"}, {"\x1b]1;hi\a", "was"}, {"\x1b]0hi\a", "was"}, {"\x1b]\a", "was"}, {"\x1b]0\a", "was"}, {"\x1b];hi\a", "was"}, {"\x1b]02;hi\a", "was"}, {"\x1b]20;hi\a", "was"}, {"\x1b]4;1;hi\a", "was"},
		{"\x1b]0;\a", ""}, {"\x1b]2;\a", ""}, {"\x1b]0;a;b\a", "a;b"}, {"\x1b]0; a \a", " a "},
		{"\x1b]0;a\u0301b\u200b\x7f\u0085c\a", "abc"}, {"\x1b]0;a\xffb\xe4\xb8\a", "a\ufffdb\ufffd"},
		{"\x1b]0;" + strings.Repeat("x", 64) + "\a", strings.Repeat("x", 64)}, {"\x1b]0;" + strings.Repeat("x", 65) + "\a", strings.Repeat("x", 64)},
		{"\x1b]0;" + strings.Repeat("中", 33) + "\a", strings.Repeat("中", 32)}, {"\x1b]0;x" + strings.Repeat("中", 33) + "y\a", "x" + strings.Repeat("中", 31)},
		{"\x1b]0;" + strings.Repeat("x", 63) + "中y\a", strings.Repeat("x", 63)}, {"\x1b]0;" + strings.Repeat("x\u0301", 64) + "\a", strings.Repeat("x", 64)},
	} {
		s := made(t, 4, 2, 0, "\x1b]0;was\a")
		a := s.Feed([]byte(c.bytes))
		if got := s.View().Title; got != c.want || len(a) != 0 {
			t.Errorf("%q: %q, must be %q; answers %q", c.bytes, got, c.want, a)
		}
	}
	s := made(t, 4, 2, 0)
	s.Do(api.Action{Kind: api.ActOsc, Text: "2;a\x07\n\x1b" + strings.Repeat("b", 5000)})
	if got := s.View().Title; got != "a"+strings.Repeat("b", 63) {
		t.Errorf("%q", got)
	}
	s.Do(api.Action{Kind: api.ActDcs, Byte: 'q', Text: "2;b"})
	if got := s.View().Title; got[0] != 'a' {
		t.Errorf("%q", got)
	}
}

func TestRequests(t *testing.T) {
	answers(t, 9, 5, []scene{
		{"\x1bP$qm\x1b\\", "\x1bP1$r0m\x1b\\"},
		{"\x1b[1;9;38;5;200;48;2;1;2;3m\x1bP$qm\x1b\\", "\x1bP1$r1;9;38;5;200;48;2;1;2;3m\x1b\\"},
		{"\x1b[94;103m\x1bP1;2$qm\x1b\\", "\x1bP1$r94;103m\x1b\\"},
		{"\x1b[1;31m\x1b[m\x1bP$qm\x1b\\", "\x1bP1$r0m\x1b\\"},
		{"\x1bP$qr\x1b\\", "\x1bP1$r1;5r\x1b\\"},
		{"\x1b[2;3r\x1bP$qr\x1b\\", "\x1bP1$r2;3r\x1b\\"},
		{"\x1bP$q\x1b\\", "\x1bP0$r\x1b\\"},
		{"\x1bP$qx\x1b\\\x1bP$qmm\x1b\\\x1bP$qM\x1b\\", "\x1bP0$r\x1b\\\x1bP0$r\x1b\\\x1bP0$r\x1b\\"},
		{"\x1bPqm\x1b\\\x1bP$pm\x1b\\\x1bP?$qm\x1b\\\x1bP$$qm\x1b\\\x1bP+qm\x1b\\", ""},
	})
}

// N6.9

// Bytes in pieces are held in TestAnyBytesInAnyPieces; here each cut of a text that says much.
func TestEachCut(t *testing.T) {
	text := []byte("ab中\x1b[1;31mc\x1b[?1049hx\x1b]0;tü\a\x1b[2;2H\x1bP$qm\x1b\\\x1b[?1049l\r\né\x1b[6n\x1bcz\x1b[2b\x1b(0q\x1b[")
	for i := range len(text) + 1 {
		s := made(t, 5, 3, 4)
		whole := made(t, 5, 3, 4)
		got := string(s.Feed(text[:i])) + string(s.Feed(text[i:]))
		want := string(whole.Feed(text))
		got += string(s.Feed([]byte("6n")))
		want += string(whole.Feed([]byte("6n")))
		if got != want || fmt.Sprint(s.View()) != fmt.Sprint(whole.View()) || !grid.Same(s.Grid(), whole.Grid()) {
			t.Errorf("cut at %d: %s, answers %q; must be %s, %q", i, shown(s), got, shown(whole), want)
		}
	}
}

// What is done on the other screen changes nothing of main.
func TestMainIsKept(t *testing.T) {
	for _, b := range []string{"x", "\r\n\n\n\n", "\x1b[2J", "\x1b[1J", "\x1b[2K", "\x1b[9S", "\x1b[9T", "\x1b[9L", "\x1b[9M", "\x1b[9@", "\x1b[9P", "\x1b[9X", "\x1b#8", "\x1bM\x1bM\x1bM\x1bM", "\x1b[99b", "\x1b[4hxyz", "\x1b8xyz", "\x1b[!pxyz"} {
		s := made(t, 5, 3, 4, "abcdefgh\r\ni\r\nj\r\nk\x1b[H")
		before := s.Grid()
		s.Feed([]byte("\x1b[?1049h\x1b[44mq" + b + "\x1b[?1049l"))
		if c := s.View().Cursor; !grid.Same(before, s.Grid()) || c != (api.Cursor{Shown: true}) || s.Style() != plain {
			t.Errorf("%q: %s, the pen is %v", b, shown(s), s.Style())
		}
	}
}

// Sgr's escapes turn the pen to what they say.
func TestSgrTurnsThePen(t *testing.T) {
	colours := []int{-1, 0, 7, 8, 15, 16, 255, api.RGB, api.RGB + 0x010203, api.RGB + 0xffffff}
	s := made(t, 4, 2, 0)
	was := plain
	for attr := range 256 {
		for i, fg := range colours {
			to := api.Style{Fg: fg, Bg: colours[(i+attr)%len(colours)], Attr: attr * 37 % 256}
			s.Feed([]byte(style.Sgr(was, to)))
			if s.Style() != to {
				t.Fatalf("%q turns %v to %v, must be %v", style.Sgr(was, to), was, s.Style(), to)
			}
			was = to
		}
	}
}

// What a parser tells of any bytes, and what a screen does of it, one by one, are what Feed does.
func TestFeedDoesWhatIsTold(t *testing.T) {
	text := []byte("ab\x1b[31mc中\r\n\x1b[2;2Hd\x1b[?1049he\x1b[6n\x1b]2;t\a\x1bP$qr\x1b\\")
	s, told := made(t, 5, 3, 4), made(t, 5, 3, 4)
	var answer []byte
	for _, a := range vtparse.New().Feed(text) {
		answer = append(answer, told.Do(a)...)
	}
	if got := s.Feed(text); string(got) != string(answer) || fmt.Sprint(s.View()) != fmt.Sprint(told.View()) {
		t.Errorf("%s, answers %q; must be %s, %q", shown(s), got, shown(told), answer)
	}
}
