// Package cell: runes, columns, texts: layer 1: see shared/doc/01-cell.md.
package cell

import "strings"

// broken stands for bytes that are no rune.
const broken = 0xfffd

const (
	firstPrintable = 32
	lastRune       = 1114111
	mostFilled     = 10000
)

// opening is a span of first bytes whose sequences go on alike.
type opening struct {
	first, last byte
	least, most byte // of the second byte
	further     int  // bytes behind the second one, each 128 to 191
}

var openings = [8]opening{
	{194, 223, 128, 191, 0},
	{224, 224, 160, 191, 1},
	{225, 236, 128, 191, 1},
	{237, 237, 128, 159, 1},
	{238, 239, 128, 191, 1},
	{240, 240, 144, 191, 2},
	{241, 243, 128, 191, 2},
	{244, 244, 128, 143, 2},
}

// span is runes, one behind the other, of the same width.
type span struct {
	first, last rune
	width       int
}

var spans = [18]span{
	{127, 159, -1},
	{768, 879, 0},
	{8203, 8207, 0},
	{65024, 65039, 0},
	{4352, 4447, 2},
	{11904, 12350, 2},
	{12353, 13311, 2},
	{13312, 19903, 2},
	{19968, 40959, 2},
	{40960, 42191, 2},
	{44032, 55203, 2},
	{63744, 64255, 2},
	{65072, 65135, 2},
	{65280, 65376, 2},
	{65504, 65510, 2},
	{127744, 128591, 2},
	{129280, 129535, 2},
	{131072, 262141, 2},
}

// Decoder decodes bytes, one by one.
type Decoder struct {
	pending     int
	missing     int  // bytes that the pending sequence lacks
	bits        rune // of the pending bytes
	least, most byte // of the next one
}

// NewDecoder begins one.
func NewDecoder() *Decoder { return &Decoder{} }

// Feed takes a byte: the runes that are whole with it.
func (d *Decoder) Feed(b byte) []rune { return d.take(nil, b) }

// End tells what is left: a rune for bytes that are not whole.
func (d *Decoder) End() []rune { return d.drop(nil) }

// Pending is how many bytes are not whole.
func (d *Decoder) Pending() int { return d.pending }

// take appends to out, so that a whole text needs no list for each byte.
func (d *Decoder) take(out []rune, b byte) []rune {
	if d.pending > 0 && d.least <= b && b <= d.most {
		return d.goOn(out, b)
	}
	return d.begin(d.drop(out), b)
}

func (d *Decoder) begin(out []rune, b byte) []rune {
	if b < 128 {
		return append(out, rune(b))
	}
	for _, o := range openings {
		if o.first <= b && b <= o.last {
			// Each further byte costs the first one a bit: 5, 4, or 3 are left.
			bits := rune(b) & (31 >> o.further)
			*d = Decoder{pending: 1, missing: 1 + o.further, bits: bits, least: o.least, most: o.most}
			return out
		}
	}
	return append(out, broken)
}

func (d *Decoder) goOn(out []rune, b byte) []rune {
	bits := d.bits<<6 | rune(b)&63
	if d.missing == 1 {
		*d = Decoder{}
		return append(out, bits)
	}
	*d = Decoder{pending: d.pending + 1, missing: d.missing - 1, bits: bits, least: 128, most: 191}
	return out
}

func (d *Decoder) drop(out []rune) []rune {
	if d.pending == 0 {
		return out
	}
	*d = Decoder{}
	return append(out, broken)
}

// Runes decodes a text whole.
func Runes(s string) []rune {
	var out []rune
	d := NewDecoder()
	for i := range len(s) {
		out = d.take(out, s[i])
	}
	return d.drop(out)
}

// mended is s as UTF-8: only there does range go over just the runes of Runes; in s itself it takes each byte of a broken sequence for one.
func mended(s string) string { return string(Runes(s)) }

// Width is how many columns a rune takes: 0 to 2; -1: it is a control.
func Width(r rune) int {
	if r < firstPrintable || r > lastRune {
		return -1
	}
	for _, s := range spans {
		if s.first <= r && r <= s.last {
			return s.width
		}
	}
	return 1
}

// room is Width, but that a control takes none.
func room(r rune) int { return max(Width(r), 0) }

// Columns is how many a text takes; Cut the first columns of a text; Fit cuts, or fills with blanks.
func Columns(s string) int {
	n := 0
	for _, r := range mended(s) {
		n += room(r)
	}
	return n
}

func Cut(s string, n int) string {
	text := mended(s)
	taken := 0
	for i, r := range text {
		taken += room(r)
		if taken > n {
			return text[:i]
		}
	}
	return text
}

func CutLeft(s string, n int) string {
	text := mended(s)
	left := Columns(text)
	for i, r := range text {
		if left <= n {
			return text[i:]
		}
		left -= room(r)
	}
	return ""
}

func Fit(s string, n int) string {
	n = min(n, mostFilled)
	text := Cut(s, n)
	return text + strings.Repeat(" ", max(n-Columns(text), 0))
}
