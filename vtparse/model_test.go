package vtparse

import (
	"fmt"
	"math/rand"
	"regexp"
	"slices"
	"strconv"
	"strings"
	"testing"

	"mullion/api"
	"mullion/cell"
)

// reader works out what a text tells a new parser, another way: from the whole text, heads by a regular expression.
type reader struct {
	rest string
	told []api.Action
}

// read is what the text tells, and the state that it ends in.
func read(text string) ([]api.Action, string) {
	r := &reader{rest: text}
	state := r.ground()
	return r.told, state
}

func (r *reader) tell(a api.Action) { r.told = append(r.told, a) }

func (r *reader) runes(l []rune) {
	for _, c := range l {
		r.tell(api.Action{Kind: api.ActPrint, Rune: c})
	}
}

// until takes the bytes ahead of the first one of which stop is true, and that one; false: there is none.
func (r *reader) until(stop func(b byte) bool) (string, byte, bool) {
	for i := range len(r.rest) {
		if b := r.rest[i]; stop(b) {
			s := r.rest[:i]
			r.rest = r.rest[i+1:]
			return s, b, true
		}
	}
	s := r.rest
	r.rest = ""
	return s, 0, false
}

// without is a text without some of its bytes.
func without(s string, gone func(b byte) bool) string {
	var b strings.Builder
	for i := range len(s) {
		if !gone(s[i]) {
			b.WriteByte(s[i])
		}
	}
	return b.String()
}

func (r *reader) ground() string {
	for {
		s, b, more := r.until(func(b byte) bool { return b < 32 })
		s = strings.ReplaceAll(s, "\x7f", "")
		d := cell.NewDecoder()
		for i := range len(s) {
			r.runes(d.Feed(s[i]))
		}
		if !more {
			return "ground"
		}
		if b == 24 || b == 26 {
			continue
		}
		r.runes(d.End())
		if b == 27 {
			return r.escape(false)
		}
		r.tell(api.Action{Kind: api.ActControl, Byte: b})
	}
}

// What ends a head.
const (
	byFinal = iota
	byEscape
	byDrop
	byNothing
)

// head takes the bytes of a head (no controls, no 127), and what ends it.
func (r *reader) head(least byte) (s string, final byte, how int) {
	for {
		piece, b, more := r.until(func(b byte) bool { return b < 32 || b > 127 || b >= least && b < 127 })
		s += strings.ReplaceAll(piece, "\x7f", "")
		switch {
		case !more:
			return s, 0, byNothing
		case b == 24 || b == 26:
			return s, 0, byDrop
		case b == 27:
			return s, 0, byEscape
		case b < 32:
			r.tell(api.Action{Kind: api.ActControl, Byte: b})
		case b > 127:
			r.rest = string([]byte{b}) + r.rest
			return s, 0, byDrop
		default:
			return s, b, byFinal
		}
	}
}

func (r *reader) escape(afterString bool) string {
	s, b, how := r.head(48)
	switch {
	case how == byEscape:
		return r.escape(false)
	case how == byNothing && len(s) > 2:
		return "ignore"
	case how == byNothing:
		return "escape"
	case how == byDrop || len(s) > 2:
		return r.ground()
	case s == "" && b == '[':
		return r.sequence(api.ActCsi, "csi")
	case s == "" && b == 'P':
		return r.sequence(api.ActDcs, "dcs")
	case s == "" && b == ']':
		return r.text(api.Action{Kind: api.ActOsc}, "osc")
	case s == "" && strings.IndexByte("X^_", b) >= 0:
		return r.text(api.Action{}, "string")
	case s == "" && b == '\\' && afterString:
		return r.ground()
	}
	r.tell(api.Action{Kind: api.ActEsc, Byte: b, Inter: s})
	return r.ground()
}

var headForm = regexp.MustCompile(`^([<=>?]?)([0-9;]*)([ -/]{0,2})$`)

func (r *reader) sequence(kind int, state string) string {
	s, b, how := r.head(64)
	m := headForm.FindStringSubmatch(s)
	switch {
	case how == byEscape:
		return r.escape(false)
	case how == byDrop:
		return r.ground()
	case how == byNothing && m == nil:
		return "ignore"
	case how == byNothing:
		return state
	case m == nil && kind == api.ActDcs:
		return r.text(api.Action{}, "string")
	case m == nil:
		return r.ground()
	}
	a := api.Action{Kind: kind, Byte: b, Params: numbers(m[2]), Inter: m[1] + m[3]}
	if kind == api.ActDcs {
		return r.text(a, "data")
	}
	r.tell(a)
	return r.ground()
}

// numbers is what stands between ;.
func numbers(s string) (l []int) {
	if s == "" {
		return nil
	}
	for _, x := range strings.Split(s, ";") {
		n, err := strconv.Atoi(strings.TrimLeft(x, "0"))
		switch {
		case x == "":
			n = -1
		case strings.Trim(x, "0") == "":
			n = 0
		case err != nil || n > 9999:
			n = 9999
		}
		l = append(l, n)
	}
	return l[:min(len(l), 32)]
}

// text takes a string's text, and tells what it is of (nothing of kind 0), unless it is dropped.
func (r *reader) text(a api.Action, state string) string {
	s, b, more := r.until(func(b byte) bool { return b == 24 || b == 26 || b == 27 || b == 7 && a.Kind == api.ActOsc })
	if !more {
		return state
	}
	if b == 24 || b == 26 {
		return r.ground()
	}
	if a.Kind != 0 {
		s = without(s, func(b byte) bool { return b < 32 })
		a.Text = s[:min(len(s), 1024)]
		r.tell(a)
	}
	if b == 27 {
		return r.escape(true)
	}
	return r.ground()
}

func same(a, b api.Action) bool {
	return a.Kind == b.Kind && a.Rune == b.Rune && a.Byte == b.Byte && slices.Equal(a.Params, b.Params) && a.Inter == b.Inter && a.Text == b.Text
}

// told is actions as a text.
func told(l []api.Action) string {
	var s []string
	for _, a := range l {
		name := "kind " + strconv.Itoa(a.Kind)
		if a.Kind >= 1 && a.Kind <= 6 {
			name = strings.Fields("print control esc csi osc dcs")[a.Kind-1]
		}
		if a.Rune != 0 {
			name += fmt.Sprintf(" %U", a.Rune)
		}
		if a.Byte != 0 || a.Kind == api.ActControl {
			name += fmt.Sprintf(" %q", a.Byte)
		}
		if len(a.Params) > 0 {
			name += fmt.Sprint(" ", a.Params)
		}
		if a.Inter != "" {
			name += fmt.Sprintf(" between %q", a.Inter)
		}
		if a.Text != "" {
			name += fmt.Sprintf(" text %q", a.Text)
		}
		s = append(s, name)
	}
	return strings.Join(s, ", ")
}

// check holds a parser that is fed a text in pieces against what the text must tell.
func check(t *testing.T, pieces ...string) {
	t.Helper()
	text := strings.Join(pieces, "")
	want, state := read(text)
	p := New()
	var l []api.Action
	for _, s := range pieces {
		l = append(l, p.Feed([]byte(s))...)
	}
	if !slices.EqualFunc(l, want, same) || p.State() != state {
		t.Fatalf("%q: %s, in %s; must be %s, in %s", pieces, told(l), p.State(), told(want), state)
	}
}

// someBytes are the ends of all spans of bytes that the chapter names, their neighbours, and those that mean something.
var someBytes = []byte{0, 7, 10, 23, 24, 25, 26, 27, 28, 31, 32, '#', 47, 48, '5', 57, ':', ';', 60, 63, 64, 'A', 'O', 'P', 'Q', 'X', 'Z', '[', '\\', ']', '^', '_', '`', 'm', 126, 127, 128, 169, 191, 195, 226, 255}

// heads are texts that leave a parser in each of its states, with each kind of thing begun.
var heads = []string{
	"", "a", "\xc3", "\xe2\x82",
	"\x1b", "\x1b(", "\x1b(/", "\x1b ! ", "\x1b]x\x1b", "\x1bP1m\x1b", "\x1bXx\x1b", "\x1b]\x1b\n", "\x1b]x\x1b\x7f", "\x1b]x\x1b(",
	"\x1b[", "\x1b[?", "\x1b[1", "\x1b[;", "\x1b[?9999;", "\x1b[ ", "\x1b[>0!/", "\x1b[1\n2", "\x1b[1\x7f", "\x1b[:", "\x1b[1 2", "\x1b[1?", "\x1b[??", "\x1b[!!!",
	"\x1bP", "\x1bP<", "\x1bP12;3", "\x1bP1$", "\x1bP+++", "\x1bP1:",
	"\x1b]", "\x1b]0;t", "\x1b]\xc3",
	"\x1bPq", "\x1bP?1;;2$q", "\x1bPqx\x07",
	"\x1bX", "\x1b^x", "\x1b_\xc3", "\x1bP:q", "\x1bP:qx",
}

// Every byte, and every two of some, behind each state (V5.1, V5.2).
func TestEveryByteInEveryState(t *testing.T) {
	for _, head := range heads {
		for b := range 256 {
			one := string([]byte{byte(b)})
			check(t, head, one)
			check(t, head, one+"\\1;2m\x07\x1b\\")
		}
		for _, b := range someBytes {
			for _, c := range someBytes {
				check(t, head, string([]byte{b, c}))
				check(t, head+string([]byte{b}), string([]byte{c}), "0Am\x1b\\A")
			}
		}
	}
}

// Every text of three of some bytes behind an ESC, and of four behind a CSI and a DCS.
func TestEveryShortSequence(t *testing.T) {
	some := []byte{10, 24, 27, 32, '!', '1', '0', ':', ';', '?', 'P', '[', '\\', ']', 'm', 127, 0xc3}
	var texts func(head string, n int)
	texts = func(head string, n int) {
		check(t, head)
		if n == 0 {
			return
		}
		for _, b := range some {
			texts(head+string([]byte{b}), n-1)
		}
	}
	texts("\x1b", 3)
	texts("\x1b[", 4)
	texts("\x1bP", 4)
}

// piece is some bytes that may stand anywhere.
func piece(r *rand.Rand) string {
	one := func(l string) string { return l[r.Intn(len(l)):][:1] }
	many := func(l string, n int) (s string) {
		for range r.Intn(n + 1) {
			s += one(l)
		}
		return s
	}
	switch r.Intn(12) {
	case 0:
		return string([]byte{byte(r.Intn(256))})
	case 1:
		return string([]byte{someBytes[r.Intn(len(someBytes))]})
	case 2:
		return string(rune(r.Intn(0x3000))) + string(rune(0x1f300+r.Intn(100)))
	case 3:
		return "\x1b" + many("(#) ", 3) + one("78cDM\\[]PX^_0~")
	case 4, 5:
		return "\x1b[" + many("?>", 1) + many("0123456789;;;", 12) + many("!$ ", 2) + one("@AmHJKhl~:")
	case 6:
		return "\x1bP" + many("?>", 1) + many("0123456789;", 5) + many("$", 2) + one("qp|:")
	case 7:
		return "\x1b]" + many("0123;ab\xc3\x7f", 9)
	case 8:
		return "\x1b" + one("X^_")
	case 9:
		return one("\x07\x18\x1a\x1b\x1b\x7f\n\x00")
	case 10:
		return "\x1b\\"
	}
	return many("0123456789;:?<! $\x7f\n", 6)
}

// Any bytes, in any pieces (V5.1, V5.2, T2).
func TestAnyBytesInAnyPieces(t *testing.T) {
	r := rand.New(rand.NewSource(5))
	for range 20000 {
		var text string
		for range 1 + r.Intn(12) {
			text += piece(r)
		}
		check(t, text)
		check(t, strings.Split(text, "")...)
		check(t, single(text)...)
		cut := r.Intn(len(text) + 1)
		check(t, text[:cut], "", text[cut:])
	}
}

// single is a text's bytes, each for itself.
func single(s string) (l []string) {
	for i := range len(s) {
		l = append(l, s[i:i+1])
	}
	return l
}

func FuzzFeed(f *testing.F) {
	for _, s := range heads {
		f.Add(s, s)
	}
	f.Fuzz(func(t *testing.T, a, b string) {
		check(t, a, b)
		check(t, single(a+b)...)
	})
}
