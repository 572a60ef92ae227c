package style

import (
	"fmt"
	"math"
	"math/rand"
	"slices"
	"strconv"
	"strings"
	"testing"

	"mullion/api"
)

const lastRGB = 33554431

// order is the attributes' names, from the first to the last; codes are what turns each on.
var (
	order = []string{"bold", "dim", "italics", "underscore", "blink", "reverse", "hidden", "strikethrough"}
	bitOf = []int{api.Bold, api.Dim, api.Italic, api.Under, api.Blink, api.Reverse, api.Hidden, api.Strike}
	codes = []string{"1", "2", "3", "4", "5", "7", "8", "9"}
)

// noColours are numbers beside colours, and far from them.
var noColours = []int{-2, 256, 257, 65535, 16777215, lastRGB + 1, lastRGB + 2, math.MinInt, math.MaxInt, math.MinInt + 1, -16777216, 1 << 32, 1<<32 + 1}

// someColours are all of the palette, and others: edges of red, green, blue, and many between.
func someColours() []int {
	var l []int
	for c := -1; c < 256; c++ {
		l = append(l, c)
	}
	parts := []int{0, 1, 9, 10, 15, 16, 127, 128, 200, 254, 255}
	for _, r := range parts {
		for _, g := range parts {
			for _, b := range parts {
				l = append(l, 16777216+65536*r+256*g+b)
			}
		}
	}
	for c := 16777216; c <= lastRGB; c += 9973 {
		l = append(l, c)
	}
	return l
}

// someStyles is n right styles, many of them alike in a colour or in attributes.
func someStyles(n int) []api.Style {
	r := rand.New(rand.NewSource(1))
	colours := []int{-1, 0, 1, 7, 8, 9, 15, 16, 17, 255, 16777216, 16777217, lastRGB}
	one := func() int {
		if r.Intn(4) == 0 {
			return 16777216 + r.Intn(16777216)
		}
		return colours[r.Intn(len(colours))]
	}
	var l []api.Style
	for range n {
		attr := r.Intn(256)
		if r.Intn(3) == 0 {
			attr = 1 << r.Intn(8)
		}
		l = append(l, api.Style{Fg: one(), Bg: one(), Attr: attr})
	}
	return l
}

func wrongStyles() []api.Style {
	l := []api.Style{{Attr: -1}, {Attr: 256}, {Attr: 257}, {Attr: math.MinInt}, {Attr: math.MaxInt}, {Fg: 1, Bg: 2, Attr: 1 << 32}}
	for _, c := range noColours {
		l = append(l, api.Style{Fg: c}, api.Style{Bg: c, Attr: 1}, api.Style{Fg: c, Bg: c, Attr: 3})
	}
	return l
}

// mixedCase is the text with some letters great.
func mixedCase(s string, r *rand.Rand) string {
	b := []byte(s)
	for i, c := range b {
		if r.Intn(2) == 0 {
			b[i] = strings.ToUpper(string(c))[0]
		}
	}
	return string(b)
}

// S3.1

// nameOf is a colour's name, worked out another way than Name does.
func nameOf(c int) string {
	eight := "black red green yellow blue magenta cyan white"
	names := strings.Fields("default " + eight + " bright" + strings.ReplaceAll(eight, " ", " bright"))
	switch {
	case c >= -1 && c < 16:
		return names[c+1]
	case c >= 16 && c < 256:
		return fmt.Sprint("colour", c)
	case c >= 16777216 && c <= lastRGB:
		return fmt.Sprintf("#%06x", c-16777216)
	}
	return ""
}

func TestName(t *testing.T) {
	for c, want := range map[int]string{
		-1: "default", 0: "black", 1: "red", 2: "green", 3: "yellow", 4: "blue", 5: "magenta", 6: "cyan", 7: "white",
		8: "brightblack", 9: "brightred", 15: "brightwhite", 16: "colour16", 99: "colour99", 100: "colour100", 255: "colour255",
		api.RGB: "#000000", api.RGB + 255: "#0000ff", api.RGB + 0xa0b0c0: "#a0b0c0", lastRGB: "#ffffff",
	} {
		if s := Name(c); s != want {
			t.Errorf("Name(%d): %q, must be %q", c, s, want)
		}
	}
	for _, c := range someColours() {
		if s := Name(c); s != nameOf(c) {
			t.Errorf("Name(%d): %q, must be %q", c, s, nameOf(c))
		}
	}
	for _, c := range noColours {
		if s := Name(c); s != "" {
			t.Errorf("Name(%d): %q, must be empty", c, s)
		}
	}
}

func TestColour(t *testing.T) {
	for s, want := range map[string]int{
		"Red": 1, "RED": 1, "default": -1, "DeFault": -1, "black": 0, "brightblack": 8, "BRIGHTwhite": 15,
		"color7": 7, "colour7": 7, "COLOR7": 7, "Colour255": 255, "color255": 255, "colour0": 0, "color0": 0, "colour16": 16, "colour8": 8, "colour99": 99, "colour100": 100,
		"#FF0000": api.RGB + 16711680, "#ff0000": api.RGB + 16711680, "#fF00aB": api.RGB + 0xff00ab, "#000000": api.RGB, "#ffffff": lastRGB, "#012345": api.RGB + 0x12345,
	} {
		if c, e := Colour(s); c != want || e != api.OK {
			t.Errorf("Colour(%q): %d, %d, must be %d", s, c, e, want)
		}
	}
}

func TestColourOfNumbers(t *testing.T) {
	for n := -300; n < 1300; n++ {
		for _, ahead := range []string{"colour", "color", "COLOUR", "Color"} {
			c, e := Colour(ahead + strconv.Itoa(n))
			if n >= 0 && n < 256 && (c != n || e != api.OK) || (n < 0 || n > 255) && (c != 0 || e != api.ErrForm) {
				t.Errorf("%s%d: %d, %d", ahead, n, c, e)
			}
			if c, e := Colour(ahead + "0" + strconv.Itoa(n)); c != 0 || e != api.ErrForm {
				t.Errorf("%s0%d: %d, %d", ahead, n, c, e)
			}
		}
	}
}

func TestNoColour(t *testing.T) {
	wrong := []string{
		"", " ", "bright", "colour007", "colour00", "color", "colour", "colour256", "color256", "colour999999999999999999999", "colour18446744073709551617", "colour4294967297",
		"colour+1", "colour-1", "colour-0", "colour 1", "colour1 ", "colour0x1", "colour1_0", "colour1.0", "colourred", "colour#000000", "colouro1", "coloor1", "colr1",
		"#", "#ff", "#ff00", "#ff000", "#ff00000", "#ff000000", "#gg0000", "#00000g", "#-00001", "#+00001", "#0x0001", "#0_0_01", "# 00001", "#00000 ", "##00000", "ff0000", "0000ff",
		"1", "7", "-1", "255", "redd", "re", "red ", " red", "r", "brightdefault", "brightcolour1", "bright red", "bright-red", "brightbrightred", "Bright", "none", "transparent", "terminal", "grey", "gray", "orange",
		"blac\u212a", "brightblac\u212a", "\u017fred", "re\u0064\u0301", "\xff", "red\x00", "\x00red", "red\n", "#ff000\xff", "cyan,", "fg=red", "bg=red",
	}
	for _, s := range wrong {
		if c, e := Colour(s); c != 0 || e != api.ErrForm {
			t.Errorf("Colour(%q): %d, %d, must be ErrForm", s, c, e)
		}
	}
}

func TestColourNames(t *testing.T) {
	r := rand.New(rand.NewSource(2))
	for _, c := range someColours() {
		s := nameOf(c)
		for _, s := range []string{s, strings.ToUpper(s), mixedCase(s, r)} {
			if d, e := Colour(s); d != c || e != api.OK {
				t.Errorf("Colour(%q): %d, %d, must be %d", s, d, e, c)
			}
		}
		for _, s := range []string{s + "x", "x" + s, s + " ", " " + s, s[:len(s)-1] + "\x80"} {
			if d, e := Colour(s); d != 0 || e != api.ErrForm {
				t.Errorf("Colour(%q): %d, %d, must be ErrForm", s, d, e)
			}
		}
	}
}

// S3.2

func TestRightAndPlain(t *testing.T) {
	for _, s := range append(someStyles(300), api.Style{}, api.Style{Fg: -1, Bg: -1}, api.Style{Fg: 255, Bg: lastRGB, Attr: 255}, api.Style{Fg: 16777216, Bg: 255, Attr: 128}) {
		if !Right(s) {
			t.Errorf("%v is right", s)
		}
	}
	for _, s := range wrongStyles() {
		if Right(s) {
			t.Errorf("%v is not right", s)
		}
	}
	for _, c := range someColours() {
		if !Right(api.Style{Fg: c}) || !Right(api.Style{Bg: c}) {
			t.Errorf("%d is a colour", c)
		}
	}
	if Plain() != (api.Style{Fg: -1, Bg: -1, Attr: 0}) {
		t.Errorf("%v", Plain())
	}
}

// S3.3

func TestParse(t *testing.T) {
	plain, over := Plain(), api.Style{Fg: 3, Bg: api.RGB + 7, Attr: api.Bold | api.Hidden}
	for _, x := range []struct {
		s          string
		over, want api.Style
	}{
		{"", plain, plain},
		{"", over, over},
		{" , ,,  ,", over, over},
		{"fg=red, bold,nobold italics", plain, api.Style{Fg: 1, Bg: -1, Attr: api.Italic}},
		{"default", api.Style{Attr: api.Bold}, api.Style{Attr: api.Bold}},
		{"none", api.Style{Attr: api.Bold}, api.Style{}},
		{"none", over, api.Style{Fg: 3, Bg: api.RGB + 7}},
		{"fg=red,bg=blue,dim,nohidden,default", over, over},
		{"fg=red,default,bg=blue", over, api.Style{Fg: 3, Bg: 4, Attr: over.Attr}},
		{"none,default,dim", over, api.Style{Fg: 3, Bg: api.RGB + 7, Attr: api.Bold | api.Dim | api.Hidden}},
		{"default,none", over, api.Style{Fg: 3, Bg: api.RGB + 7}},
		{"fg=default", over, api.Style{Fg: -1, Bg: api.RGB + 7, Attr: over.Attr}},
		{"bg=default", over, api.Style{Fg: 3, Bg: -1, Attr: over.Attr}},
		{"fg=red fg=green", over, api.Style{Fg: 2, Bg: api.RGB + 7, Attr: over.Attr}},
		{"bg=red,bg=#0a0B0c", over, api.Style{Fg: 3, Bg: api.RGB + 0xa0b0c, Attr: over.Attr}},
		{"FG=Color7 BG=BrightCyan NoBold REVERSE", over, api.Style{Fg: 7, Bg: 14, Attr: api.Hidden | api.Reverse}},
		{"None", over, api.Style{Fg: 3, Bg: api.RGB + 7}},
		{"DEFAULT", over, over},
		{"bold,bold", plain, api.Style{Fg: -1, Bg: -1, Attr: api.Bold}},
		{"nobold,nobold", over, api.Style{Fg: 3, Bg: api.RGB + 7, Attr: api.Hidden}},
		{"nobold,bold", plain, api.Style{Fg: -1, Bg: -1, Attr: api.Bold}},
		{"bold none dim", plain, api.Style{Fg: -1, Bg: -1, Attr: api.Dim}},
	} {
		if s, e := Parse(x.s, x.over); s != x.want || e != api.OK {
			t.Errorf("Parse(%q, %v): %v, %d, must be %v", x.s, x.over, s, e, x.want)
		}
	}
}

func TestParseAttributes(t *testing.T) {
	r := rand.New(rand.NewSource(3))
	for i, name := range order {
		for attr := range 256 {
			over := api.Style{Fg: 5, Bg: 6, Attr: attr}
			on, off := over, over
			on.Attr |= bitOf[i]
			off.Attr &^= bitOf[i]
			if s, e := Parse(mixedCase(name, r), over); s != on || e != api.OK {
				t.Errorf("%s over %v: %v, %d", name, over, s, e)
			}
			if s, e := Parse(mixedCase("no"+name, r), over); s != off || e != api.OK {
				t.Errorf("no%s over %v: %v, %d", name, over, s, e)
			}
		}
	}
}

func TestParseWrong(t *testing.T) {
	for _, item := range []string{
		"oops", "bold,oops", "oops,bold", "bold,,oops", "bol", "boldd", "no", "nono", "nobol", "nonobold", "nonone", "nodefault", "nofg=red", "no bold oops", "no,bold", "no=bold", "bold=1", "-bold", "italic", "italics.", "underline", "strike", "bright", "red", "#ff0000", "colour1",
		"fg", "fg=", "bg=", "fg=bold", "fg=none", "fg = red", "fg= red", "fg =red", "fg=red=", "fg==red", "bg=colour007", "fg=colour256", "fg=#ff00", "bg=bright", "fg:red", "us=red", "fill=red", "=red", "=", "fg=red;bold", "bold\t", "\tbold", "bold\tdim", "bold\n", "bold\x00", "bold\xc2\xa0dim", "bold\xff", "\xff", "\u212a", "blin\u212a", "noblin\u212a", "fg=blac\u212a", "hidde\u0144", "fg=red\u2003bold", "#", "[bold]", "align=left", "push-default",
	} {
		for _, s := range []string{item, "dim," + item, item + ",dim", "bg=red " + item + " fg=blue", item + ",default", item + " none"} {
			if got, e := Parse(s, api.Style{Fg: 1, Bg: 2, Attr: 3}); got != (api.Style{}) || e != api.ErrForm {
				t.Errorf("Parse(%q): %v, %d, must be ErrForm", s, got, e)
			}
		}
	}
}

func TestParseLong(t *testing.T) {
	over := api.Style{Fg: 9, Bg: 9, Attr: 9}
	for _, s := range []string{strings.Repeat(" ", 256), strings.Repeat("dim,", 64), strings.Repeat(",", 252) + "bold"} {
		if got, e := Parse(s, over); !Right(got) || e != api.OK {
			t.Errorf("%d bytes: %v, %d", len(s), got, e)
		}
		for _, s := range []string{s + " ", s + ",", "," + s, s + "oops", s + s, strings.Repeat(s, 1000)} {
			if got, e := Parse(s, over); got != (api.Style{}) || e != api.ErrLong {
				t.Errorf("%d bytes: %v, %d, must be ErrLong", len(s), got, e)
			}
		}
	}
	if got, e := Parse(strings.Repeat("x", 256), over); got != (api.Style{}) || e != api.ErrForm {
		t.Errorf("a word of 256 bytes: %v, %d", got, e)
	}
	if got, e := Parse(strings.Repeat("\u4e2d", 86), over); got != (api.Style{}) || e != api.ErrLong { // 86 runes, 258 bytes
		t.Errorf("bytes are counted, no runes: %v, %d", got, e)
	}
}

// TestParseItems holds texts of any right items against doing them one by one.
func TestParseItems(t *testing.T) {
	r := rand.New(rand.NewSource(4))
	for _, over := range append(someStyles(2000), wrongStyles()...) {
		want, s := over, ""
		for range r.Intn(12) {
			item := ""
			switch k := r.Intn(10); k {
			case 0:
				item, want = "default", over
			case 1:
				item, want.Attr = "none", 0
			case 2, 3:
				c := r.Intn(257) - 1
				item, want.Fg = "fg="+nameOf(c), c
			case 4, 5:
				c := 16777216 + r.Intn(16777216)
				item, want.Bg = "bg="+nameOf(c), c
			default:
				i := r.Intn(8)
				item, want.Attr = order[i], want.Attr|bitOf[i]
				if k > 7 {
					item, want.Attr = "no"+item, want.Attr&^bitOf[i]
				}
			}
			s += mixedCase(item, r) + []string{",", " ", ", ", " ,, "}[r.Intn(4)]
		}
		if len(s) > 256 {
			continue
		}
		if got, e := Parse(s, over); got != want || e != api.OK {
			t.Errorf("Parse(%q, %v): %v, %d, must be %v", s, over, got, e, want)
		}
	}
}

// S3.4

func TestPrint(t *testing.T) {
	for s, want := range map[api.Style]string{
		{Fg: 1, Bg: -1, Attr: api.Bold | api.Strike}: "fg=red,bg=default,none,bold,strikethrough",
		{Fg: -1, Bg: -1}:                       "fg=default,bg=default,none",
		{}:                                     "fg=black,bg=black,none",
		{Fg: 16, Bg: api.RGB + 255, Attr: 255}: "fg=colour16,bg=#0000ff,none,bold,dim,italics,underscore,blink,reverse,hidden,strikethrough",
		{Fg: 15, Bg: 8, Attr: api.Hidden | api.Under}: "fg=brightwhite,bg=brightblack,none,underscore,hidden",
	} {
		if p := Print(s); p != want {
			t.Errorf("Print(%v): %q, must be %q", s, p, want)
		}
	}
	for attr := range 256 {
		want := "fg=cyan,bg=colour200,none"
		for i, name := range order {
			if attr&bitOf[i] != 0 {
				want += "," + name
			}
		}
		if p := Print(api.Style{Fg: 6, Bg: 200, Attr: attr}); p != want {
			t.Errorf("attributes %d: %q", attr, p)
		}
	}
	for _, s := range wrongStyles() {
		if p := Print(s); p != "" {
			t.Errorf("Print(%v): %q, must be empty", s, p)
		}
	}
}

// S3.5

func TestSgr(t *testing.T) {
	plain := Plain()
	for _, x := range []struct {
		from, to api.Style
		want     string
	}{
		{plain, plain, ""},
		{plain, api.Style{Fg: 1, Bg: -1, Attr: api.Bold}, "\x1b[1;31m"},
		{api.Style{Fg: 1, Bg: -1, Attr: api.Bold}, plain, "\x1b[0m"},
		{plain, api.Style{Fg: -1, Bg: api.RGB + 1}, "\x1b[48;2;0;0;1m"},
		{plain, api.Style{Fg: api.RGB + 0x010203, Bg: -1}, "\x1b[38;2;1;2;3m"},
		{plain, api.Style{Fg: lastRGB, Bg: api.RGB}, "\x1b[38;2;255;255;255;48;2;0;0;0m"},
		{plain, api.Style{Fg: -1, Bg: -1, Attr: 255}, "\x1b[1;2;3;4;5;7;8;9m"},
		{plain, api.Style{Fg: 0, Bg: 7}, "\x1b[30;47m"},
		{plain, api.Style{Fg: 7, Bg: 0}, "\x1b[37;40m"},
		{plain, api.Style{Fg: 8, Bg: 15}, "\x1b[90;107m"},
		{plain, api.Style{Fg: 15, Bg: 8}, "\x1b[97;100m"},
		{plain, api.Style{Fg: 16, Bg: 255}, "\x1b[38;5;16;48;5;255m"},
		{api.Style{Fg: 3, Bg: 4}, plain, "\x1b[39;49m"},
		{api.Style{Fg: 3, Bg: 4}, api.Style{Fg: 3, Bg: -1}, "\x1b[49m"},
		{api.Style{Fg: 3, Bg: 4}, api.Style{Fg: -1, Bg: 4, Attr: api.Reverse}, "\x1b[7;39m"},
		{api.Style{Fg: 3, Bg: 4, Attr: 3}, api.Style{Fg: 3, Bg: 4, Attr: 1}, "\x1b[0;1;33;44m"}, // all that is left is told again
		{api.Style{Fg: 3, Bg: 4, Attr: 1}, api.Style{Fg: 3, Bg: 4, Attr: 3}, "\x1b[2m"},
		{api.Style{Fg: 3, Bg: 4, Attr: 1}, api.Style{Fg: -1, Bg: 4, Attr: 2}, "\x1b[0;2;44m"},
		{api.Style{Fg: 3, Bg: 4, Attr: 128}, api.Style{Fg: 3, Bg: -1}, "\x1b[0;33m"},
	} {
		if s := Sgr(x.from, x.to); s != x.want {
			t.Errorf("Sgr(%v, %v): %q, must be %q", x.from, x.to, s, x.want)
		}
	}
}

// sgrOf is the escape, written down as the promise tells it.
func sgrOf(from, to api.Style) string {
	var l []string
	if !rightOf(from) {
		from = api.Style{Fg: -1, Bg: -1}
	}
	if !rightOf(to) {
		to = api.Style{Fg: -1, Bg: -1}
	}
	if from == to {
		return ""
	}
	for _, bit := range bitOf {
		if from.Attr&bit != 0 && to.Attr&bit == 0 {
			l, from = []string{"0"}, api.Style{Fg: -1, Bg: -1}
		}
	}
	for i, bit := range bitOf {
		if from.Attr&bit == 0 && to.Attr&bit != 0 {
			l = append(l, codes[i])
		}
	}
	colour := func(c, rest, low, high int, ahead string) {
		switch {
		case c == -1:
			l = append(l, fmt.Sprint(rest))
		case c < 8:
			l = append(l, fmt.Sprint(low+c))
		case c < 16:
			l = append(l, fmt.Sprint(high+c))
		case c < 256:
			l = append(l, fmt.Sprint(ahead, ";5;", c))
		default:
			c -= 16777216
			l = append(l, fmt.Sprintf("%s;2;%d;%d;%d", ahead, c/65536, c/256%256, c%256))
		}
	}
	if from.Fg != to.Fg {
		colour(to.Fg, 39, 30, 82, "38")
	}
	if from.Bg != to.Bg {
		colour(to.Bg, 49, 40, 92, "48")
	}
	return "\x1b[" + strings.Join(l, ";") + "m"
}

func rightOf(s api.Style) bool {
	return nameOf(s.Fg) != "" && nameOf(s.Bg) != "" && s.Attr >= 0 && s.Attr < 256
}

// played is the style of a terminal that had that look and is told the escape.
func played(s api.Style, sgr string) api.Style {
	if sgr == "" {
		return s
	}
	var l []int
	for _, x := range strings.Split(strings.TrimSuffix(strings.TrimPrefix(sgr, "\x1b["), "m"), ";") {
		n, _ := strconv.Atoi(x)
		l = append(l, n)
	}
	for len(l) > 0 {
		n := l[0]
		l = l[1:]
		c := &s.Fg
		if n >= 40 && n < 50 || n >= 100 {
			c, n = &s.Bg, n-10
		}
		switch {
		case n == 0:
			s = api.Style{Fg: -1, Bg: -1}
		case n < 10:
			s.Attr |= bitOf[slices.Index(codes, strconv.Itoa(n))]
		case n < 38:
			*c = n - 30
		case n == 38 && l[0] == 5:
			*c, l = l[1], l[2:]
		case n == 38:
			*c, l = 16777216+l[1]*65536+l[2]*256+l[3], l[4:]
		case n == 39:
			*c = -1
		default:
			*c = n - 82
		}
	}
	return s
}

func TestSgrOfMany(t *testing.T) {
	l := append(someStyles(400), wrongStyles()...)
	l = append(l, Plain(), api.Style{})
	for _, from := range l {
		for _, to := range l {
			s := Sgr(from, to)
			if want := sgrOf(from, to); s != want {
				t.Fatalf("Sgr(%v, %v): %q, must be %q", from, to, s, want)
			}
			if !rightOf(from) || !rightOf(to) {
				continue
			}
			if got := played(from, s); got != to {
				t.Fatalf("Sgr(%v, %v): %q makes %v", from, to, s, got)
			}
		}
	}
	for _, c := range someColours() {
		for _, to := range []api.Style{{Fg: c, Bg: -1}, {Fg: -1, Bg: c}, {Fg: c, Bg: c, Attr: 4}} {
			if s, want := Sgr(Plain(), to), sgrOf(Plain(), to); s != want {
				t.Errorf("Sgr to %v: %q, must be %q", to, s, want)
			}
		}
	}
}

func TestSgrOfAttributes(t *testing.T) {
	for a := range 256 {
		for b := range 256 {
			from, to := api.Style{Fg: 1, Bg: 20, Attr: a}, api.Style{Fg: 1, Bg: 20, Attr: b}
			if s, want := Sgr(from, to), sgrOf(from, to); s != want {
				t.Fatalf("%d to %d: %q, must be %q", a, b, s, want)
			}
		}
	}
}

// S3.6

func TestThereAndBack(t *testing.T) {
	overs := append(someStyles(20), wrongStyles()...)
	for _, s := range someStyles(500) {
		for _, over := range overs {
			if got, e := Parse(Print(s), over); got != s || e != api.OK {
				t.Errorf("%q over %v: %v, %d", Print(s), over, got, e)
			}
		}
		if e := Sgr(s, s); e != "" {
			t.Errorf("Sgr of %v to itself: %q", s, e)
		}
	}
	for _, c := range someColours() {
		if d, e := Colour(Name(c)); d != c || e != api.OK {
			t.Errorf("Colour(Name(%d)): %d, %d", c, d, e)
		}
	}
	for _, s := range wrongStyles() {
		if e := Sgr(s, s); e != "" {
			t.Errorf("Sgr of %v to itself: %q", s, e)
		}
	}
}

// P1 to P6: any texts.

func FuzzParse(f *testing.F) {
	for _, s := range []string{"", "fg=red,bold", "nobold,default,none", "bg=#00ff7f reverse", "fg=colour256", "\xff,\xe4\xb8", "fg=color07"} {
		f.Add(s, -1, 255, 7)
	}
	f.Fuzz(func(t *testing.T, s string, fg, bg, attr int) {
		over := api.Style{Fg: fg, Bg: bg, Attr: attr}
		got, e := Parse(s, over)
		again, e2 := Parse(s, over)
		if got != again || e != e2 {
			t.Errorf("%q: %v, then %v", s, got, again)
		}
		if e == api.OK && rightOf(over) && !rightOf(got) || e != api.OK && got != (api.Style{}) {
			t.Errorf("%q over %v: %v, %d", s, over, got, e)
		}
		if e != api.OK && e != api.ErrForm && e != api.ErrLong || (e == api.ErrLong) != (len(s) > 256) {
			t.Errorf("%q: %d", s, e)
		}
		if c, e := Colour(s); e == api.OK && nameOf(c) == "" || e != api.OK && (e != api.ErrForm || c != 0) {
			t.Errorf("Colour(%q): %d, %d", s, c, e)
		}
		if to, want := Sgr(over, got), sgrOf(over, got); to != want {
			t.Errorf("Sgr(%v, %v): %q, must be %q", over, got, to, want)
		}
	})
}
