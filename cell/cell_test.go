package cell

import (
	"math"
	"slices"
	"strings"
	"testing"
	"unicode/utf8"
)

// edgeBytes are the ends of every span of bytes that the chapter names, and their neighbours.
var edgeBytes = []byte{0, 'A', 127, 128, 143, 144, 159, 160, 191, 192, 193, 194, 223, 224, 225, 236, 237, 238, 239, 240, 241, 243, 244, 245, 255}

// texts calls f with every text of at most n of the pieces.
func texts(pieces []string, n int, f func(s string)) {
	var more func(s string, n int)
	more = func(s string, n int) {
		f(s)
		if n == 0 {
			return
		}
		for _, p := range pieces {
			more(s+p, n-1)
		}
	}
	more("", n)
}

func edgeTexts(n int, f func(s string)) {
	var pieces []string
	for _, b := range edgeBytes {
		pieces = append(pieces, string([]byte{b}))
	}
	texts(pieces, n, f)
}

// heads is each beginning of each rune in UTF-8, and the rune, if it is whole, else -1: what the decoder's bounds are held against.
func heads() map[string]rune {
	m := map[string]rune{}
	for r := rune(0); r <= utf8.MaxRune; r++ {
		if !utf8.ValidRune(r) {
			continue
		}
		b := utf8.AppendRune(nil, r)
		for i := 1; i < len(b); i++ {
			m[string(b[:i])] = -1
		}
		m[string(b)] = r
	}
	return m
}

// decoded is what a text's bytes are, and how many at its end are pending.
func decoded(m map[string]rune, s string) (out []rune, pending int) {
	head := ""
	for i := range len(s) {
		if _, ok := m[head+s[i:i+1]]; !ok && head != "" {
			out = append(out, 0xfffd)
			head = ""
		}
		head += s[i : i+1]
		r, ok := m[head]
		if !ok {
			r = 0xfffd
		}
		if r >= 0 {
			out = append(out, r)
			head = ""
		}
	}
	return out, len(head)
}

func feed(d *Decoder, s string) (out []rune) {
	for i := range len(s) {
		out = append(out, d.Feed(s[i])...)
	}
	return out
}

// C1

func TestNothingPendingAtFirst(t *testing.T) {
	d := NewDecoder()
	if d.Pending() != 0 || len(d.End()) != 0 || d.Pending() != 0 {
		t.Error("something is pending in a new decoder")
	}
}

func TestFeedByteByByte(t *testing.T) {
	type step struct {
		b       byte
		runes   []rune
		pending int
	}
	for name, steps := range map[string][]step{
		"one byte":            {{0, []rune{0}, 0}, {127, []rune{127}, 0}},
		"two":                 {{194, nil, 1}, {128, []rune{128}, 0}, {223, nil, 1}, {191, []rune{2047}, 0}},
		"three":               {{226, nil, 1}, {130, nil, 2}, {172, []rune{0x20ac}, 0}},
		"four":                {{240, nil, 1}, {159, nil, 2}, {152, nil, 3}, {128, []rune{0x1f600}, 0}},
		"ended by a rune":     {{226, nil, 1}, {130, nil, 2}, {'A', []rune{0xfffd, 'A'}, 0}},
		"ended by no rune":    {{237, nil, 1}, {160, []rune{0xfffd, 0xfffd}, 0}, {128, []rune{0xfffd}, 0}},
		"ended by a first":    {{240, nil, 1}, {159, nil, 2}, {146, nil, 3}, {194, []rune{0xfffd}, 1}, {160, []rune{160}, 0}},
		"none begins so":      {{128, []rune{0xfffd}, 0}, {193, []rune{0xfffd}, 0}, {245, []rune{0xfffd}, 0}, {255, []rune{0xfffd}, 0}},
		"third below":         {{240, nil, 1}, {144, nil, 2}, {127, []rune{0xfffd, 127}, 0}},
		"fourth above":        {{244, nil, 1}, {143, nil, 2}, {191, nil, 3}, {192, []rune{0xfffd, 0xfffd}, 0}},
		"the greatest":        {{244, nil, 1}, {143, nil, 2}, {191, nil, 3}, {191, []rune{0x10ffff}, 0}},
		"above the greatest":  {{244, nil, 1}, {144, []rune{0xfffd, 0xfffd}, 0}},
		"a bound only once":   {{224, nil, 1}, {160, nil, 2}, {128, []rune{2048}, 0}},
		"fresh bounds behind": {{237, nil, 1}, {159, nil, 2}, {191, []rune{0xd7ff}, 0}, {238, nil, 1}, {191, nil, 2}, {191, []rune{0xefff}, 0}},
	} {
		d := NewDecoder()
		for i, s := range steps {
			if r := d.Feed(s.b); !slices.Equal(r, s.runes) || d.Pending() != s.pending {
				t.Errorf("%s, step %d: %U, pending %d; must be %U, %d", name, i, r, d.Pending(), s.runes, s.pending)
			}
		}
	}
}

func TestEnd(t *testing.T) {
	for _, s := range []string{"\xc2", "\xe2\x82", "\xf0\x9f\x92"} {
		d := NewDecoder()
		feed(d, s)
		if d.Pending() != len(s) {
			t.Errorf("%q: pending %d", s, d.Pending())
		}
		if r := d.End(); !slices.Equal(r, []rune{0xfffd}) {
			t.Errorf("%q: End is %U", s, r)
		}
		if d.Pending() != 0 || len(d.End()) != 0 {
			t.Errorf("%q: something is pending behind End", s)
		}
		if r := feed(d, "\x82\u20ac"); !slices.Equal(r, []rune{0xfffd, 0x20ac}) {
			t.Errorf("%q: %U behind End", s, r)
		}
	}
	d := NewDecoder()
	if feed(d, "A"); len(d.End()) != 0 {
		t.Error("End answers a rune, and nothing was pending")
	}
}

func TestRunesExamples(t *testing.T) {
	for s, want := range map[string][]rune{
		"":                 nil,
		"\xe2\x82A":        {0xfffd, 'A'},
		"\xf0\x9f\x92":     {0xfffd},
		"\xc0\xaf":         {0xfffd, 0xfffd},
		"\xed\xa0\x80":     {0xfffd, 0xfffd, 0xfffd},
		"\xf4\x90\x80\x80": {0xfffd, 0xfffd, 0xfffd, 0xfffd},
		"\ufffd\xff":       {0xfffd, 0xfffd},
		"\x00\x00":         {0, 0},
	} {
		if l := Runes(s); !slices.Equal(l, want) {
			t.Errorf("Runes(%q): %U, must be %U", s, l, want)
		}
	}
}

// Every text of up to three edge bytes, and of four that begin with any first byte: Feed, Pending, End and Runes against the encodings of all runes.
func TestAllEdges(t *testing.T) {
	m := heads()
	check := func(s string) {
		d := NewDecoder()
		l := feed(d, s)
		want, pending := decoded(m, s)
		if !slices.Equal(l, want) || d.Pending() != pending {
			t.Fatalf("%q: %U, pending %d; must be %U, %d", s, l, d.Pending(), want, pending)
		}
		if pending > 0 {
			want = append(want, 0xfffd)
		}
		if l = append(l, d.End()...); !slices.Equal(l, want) || !slices.Equal(Runes(s), want) {
			t.Fatalf("%q: %U, at once %U; must be %U", s, l, Runes(s), want)
		}
	}
	edgeTexts(3, check)
	for b := range 256 {
		for second := range 256 {
			for _, third := range edgeBytes {
				check(string([]byte{byte(b), byte(second), third}))
			}
			for _, fourth := range edgeBytes {
				check(string([]byte{byte(b), byte(second), 191, fourth}))
			}
		}
	}
}

// C2

func TestWidthOfEveryRune(t *testing.T) {
	want := slices.Repeat([]int{1}, 0x110000)
	fill := func(width int, bounds ...rune) {
		for i := 0; i < len(bounds); i += 2 {
			for r := bounds[i]; r <= bounds[i+1]; r++ {
				want[r] = width
			}
		}
	}
	fill(-1, 0, 31, 127, 159)
	fill(0, 0x300, 0x36f, 0x200b, 0x200f, 0xfe00, 0xfe0f)
	fill(2, 0x1100, 0x115f, 0x2e80, 0x303e, 0x3041, 0x4dbf, 0x4e00, 0xa4cf, 0xac00, 0xd7a3, 0xf900, 0xfaff, 0xfe30, 0xfe6f, 0xff00, 0xff60, 0xffe0, 0xffe6, 0x1f300, 0x1f64f, 0x1f900, 0x1f9ff, 0x20000, 0x3fffd)
	for r, w := range want {
		if Width(rune(r)) != w {
			t.Errorf("Width(%U): %d, must be %d", r, Width(rune(r)), w)
		}
	}
}

func TestWidthOfNoRune(t *testing.T) {
	for _, r := range []rune{math.MinInt32, -2, -1, 0x110000, 0x110001, math.MaxInt32} {
		if Width(r) != -1 {
			t.Errorf("Width(%d): %d", r, Width(r))
		}
	}
	for _, r := range []rune{0xd800, 0xdfff, 0xfffd, 0xfffe, 0x10ffff} {
		if Width(r) != 1 {
			t.Errorf("Width(%U): %d", r, Width(r))
		}
	}
}

func TestWidthExamples(t *testing.T) {
	for r, want := range map[rune]int{'A': 1, 20013: 2, 769: 0, 7: -1, 160: 1} {
		if Width(r) != want {
			t.Errorf("Width(%d): %d, must be %d", r, Width(r), want)
		}
	}
}

// C3

func TestColumns(t *testing.T) {
	for s, want := range map[string]int{
		"":                 0,
		"a\u4e2db":         4,
		"\a\n\x7f\u0085":   0,
		"e\u0301":          1,
		"\xff\xe4\xb8":     2,
		"\U0001f600\u200b": 2,
		" ":                1,
	} {
		if n := Columns(s); n != want {
			t.Errorf("Columns(%q): %d, must be %d", s, n, want)
		}
	}
}

func TestCut(t *testing.T) {
	for _, c := range []struct {
		s    string
		n    int
		want string
	}{
		{"a\u4e2db", 2, "a"},
		{"a\u4e2db", 3, "a\u4e2d"},
		{"a\u4e2db", 4, "a\u4e2db"},
		{"a\u4e2db", 99, "a\u4e2db"},
		{"a\u4e2db", math.MaxInt, "a\u4e2db"},
		{"a\u4e2db", 0, ""},
		{"a", -1, ""},
		{"\u0301a", -1, ""},
		{"\u0301", math.MinInt, ""},
		{"\u0301\a\u200ba", 0, "\u0301\a\u200b"},
		{"ae\u0301\u0302\ab", 2, "ae\u0301\u0302\a"},
		{"a\u4e2d\u0301b", 2, "a"},
		{"\u4e2d\u0301b", 1, ""},
		{"\u4e2da", 1, ""},
		{"\xe4\xb8\xffa", 2, "\ufffd\ufffd"},
		{"a\xe4\xb8", 2, "a\ufffd"},
		{"", 3, ""},
	} {
		if l := Cut(c.s, c.n); l != c.want {
			t.Errorf("Cut(%q, %d): %q, must be %q", c.s, c.n, l, c.want)
		}
	}
}

func TestCutLeft(t *testing.T) {
	for _, c := range []struct {
		s    string
		n    int
		want string
	}{
		{"a\u4e2db", 2, "b"},
		{"a\u4e2db", 3, "\u4e2db"},
		{"a\u4e2db", 4, "a\u4e2db"},
		{"a\u4e2db", math.MaxInt, "a\u4e2db"},
		{"a\u4e2db", 0, ""},
		{"a", -1, ""},
		{"a\u0301", -1, ""},
		{"\u0301", math.MinInt, ""},
		{"a\u0301\a", 0, "\u0301\a"},
		{"ae\u0301\ab", 1, "\u0301\ab"},
		{"\a\u0301ab", 2, "\a\u0301ab"},
		{"a\u4e2d", 1, ""},
		{"a\u4e2d\u0301", 1, "\u0301"},
		{"a\xe4\xb8\xff", 2, "\ufffd\ufffd"},
		{"", 3, ""},
	} {
		if l := CutLeft(c.s, c.n); l != c.want {
			t.Errorf("CutLeft(%q, %d): %q, must be %q", c.s, c.n, l, c.want)
		}
	}
}

func TestFit(t *testing.T) {
	for _, c := range []struct {
		s    string
		n    int
		want string
	}{
		{"a\u4e2db", 3, "a\u4e2d"},
		{"a\u4e2d", 2, "a "},
		{"a\u4e2d", 5, "a\u4e2d  "},
		{"a\u0301", 2, "a\u0301 "},
		{"\a", 1, "\a "},
		{"a", 0, ""},
		{"\u0301a", 0, "\u0301"},
		{"\xff", 2, "\ufffd "},
		{"", 2, "  "},
		{"", 0, ""},
		{"", -1, ""},
		{"\u0301a", -1, ""},
		{"a", math.MinInt, ""},
	} {
		if l := Fit(c.s, c.n); l != c.want {
			t.Errorf("Fit(%q, %d): %q, must be %q", c.s, c.n, l, c.want)
		}
	}
}

func TestFitAtMost(t *testing.T) {
	long := strings.Repeat("x", 10001)
	for n, want := range map[int]int{9999: 9999, 10000: 10000, 10001: 10000, math.MaxInt: 10000} {
		if l := Fit("ab", n); l != "ab"+strings.Repeat(" ", want-2) {
			t.Errorf("Fit of a short text to %d: %d bytes", n, len(l))
		}
		if l := Fit(long, n); l != long[:want] {
			t.Errorf("Fit of a long text to %d: %d bytes", n, len(l))
		}
	}
}

func columnsOf(l []rune) int {
	n := 0
	for _, r := range l {
		if w := Width(r); w > 0 {
			n += w
		}
	}
	return n
}

// Every text of up to five pieces: Cut and CutLeft against trying all lengths, from the greatest on.
func TestCutTakesAsManyAsItCan(t *testing.T) {
	texts([]string{"a", "\u4e2d", "\u0301", "\a", "\xe4\xb8"}, 5, func(s string) {
		l := Runes(s)
		if Columns(s) != columnsOf(l) {
			t.Fatalf("Columns(%q): %d", s, Columns(s))
		}
		for n := range 12 {
			k := len(l)
			for columnsOf(l[:k]) > n {
				k--
			}
			if c := Cut(s, n); c != string(l[:k]) {
				t.Fatalf("Cut(%q, %d): %q, must be %q", s, n, c, string(l[:k]))
			}
			if f := Fit(s, n); f != string(l[:k])+strings.Repeat(" ", n-columnsOf(l[:k])) {
				t.Fatalf("Fit(%q, %d): %q", s, n, f)
			}
			k = 0
			for columnsOf(l[k:]) > n {
				k++
			}
			if c := CutLeft(s, n); c != string(l[k:]) {
				t.Fatalf("CutLeft(%q, %d): %q, must be %q", s, n, c, string(l[k:]))
			}
		}
	})
}

// C4

func TestUTF8ComesBack(t *testing.T) {
	var all []rune
	for r := rune(0); r <= utf8.MaxRune; r++ {
		if utf8.ValidRune(r) {
			all = append(all, r)
		}
	}
	s := string(all)
	if !slices.Equal(Runes(s), all) {
		t.Error("all runes in UTF-8 do not come back")
	}
	if Cut(s, math.MaxInt) != s || CutLeft(s, math.MaxInt) != s {
		t.Error("a text of all runes is not whole when nothing is cut off")
	}
}

func TestPiecesMakeNoDifference(t *testing.T) {
	edgeTexts(3, func(s string) {
		for i := range len(s) + 1 {
			d := NewDecoder()
			l := append(feed(d, s[:i]), feed(d, s[i:])...)
			if l = append(l, d.End()...); !slices.Equal(l, Runes(s)) {
				t.Fatalf("%q, in two at %d: %U", s, i, l)
			}
		}
	})
}

func TestColumnsOfCutAndFit(t *testing.T) {
	texts([]string{"a", "\u4e2d", "\u0301", "\x00", "\xf0"}, 5, func(s string) {
		for n := range 12 {
			for _, c := range []string{Cut(s, n), CutLeft(s, n)} {
				if k := Columns(c); k > n || Columns(s) >= n && k <= n-2 {
					t.Fatalf("%q, cut to %d columns: %q", s, n, c)
				}
			}
			if Columns(Fit(s, n)) != n {
				t.Fatalf("Fit(%q, %d): %q", s, n, Fit(s, n))
			}
		}
	})
	for _, n := range []int{9999, 10000} {
		if k := Columns(Fit("a\u4e2d", n)); k != n {
			t.Errorf("Fit to %d has %d columns", n, k)
		}
	}
}

// P1 to P6

func TestAnyTextAnyNumber(t *testing.T) {
	numbers := []int{math.MinInt, -10001, -1, 0, 1, 10000, 10001, math.MaxInt}
	edgeTexts(2, func(s string) {
		for _, n := range numbers {
			if !utf8.ValidString(Cut(s, n) + CutLeft(s, n) + Fit(s, n)) {
				t.Fatalf("%q, %d: what is answered is not UTF-8", s, n)
			}
		}
	})
}

func TestAnswersShareNothing(t *testing.T) {
	d := NewDecoder()
	d.Feed(226)
	first := d.Feed('A')
	first[0], first[1] = 1, 2
	d.Feed(226)
	if second := d.Feed('B'); !slices.Equal(second, []rune{0xfffd, 'B'}) || first[0] != 1 || first[1] != 2 {
		t.Errorf("%U %U", first, second)
	}
	a, b := Runes("ab"), Runes("ab")
	a[0] = 'x'
	a = append(a[:1], 'y')
	if !slices.Equal(b, []rune("ab")) || !slices.Equal(Runes("ab"), b) || !slices.Equal(a, []rune("xy")) {
		t.Errorf("%U %U", a, b)
	}
}

func TestDecodersAreApart(t *testing.T) {
	a, b := NewDecoder(), NewDecoder()
	a.Feed(240)
	a.Feed(159)
	b.Feed(194)
	if a.Pending() != 2 || b.Pending() != 1 {
		t.Errorf("pending %d, %d", a.Pending(), b.Pending())
	}
	if r := b.Feed(169); !slices.Equal(r, []rune{169}) || a.Pending() != 2 {
		t.Errorf("%U, pending %d", r, a.Pending())
	}
	if r := Runes("\x98\x80"); !slices.Equal(r, []rune{0xfffd, 0xfffd}) {
		t.Errorf("a text goes on with what a decoder was fed: %U", r)
	}
}
