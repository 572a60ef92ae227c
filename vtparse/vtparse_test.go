package vtparse

import (
	"bytes"
	"fmt"
	"math"
	"math/rand"
	"regexp"
	"slices"
	"strings"
	"testing"
	"unicode/utf8"

	"mullion/api"
)

func printed(l ...rune) (out []api.Action) {
	for _, r := range l {
		out = append(out, api.Action{Kind: api.ActPrint, Rune: r})
	}
	return out
}

func control(b byte) api.Action { return api.Action{Kind: api.ActControl, Byte: b} }

func escaped(inter string, b byte) api.Action {
	return api.Action{Kind: api.ActEsc, Byte: b, Inter: inter}
}

func csi(inter string, b byte, params ...int) api.Action {
	return api.Action{Kind: api.ActCsi, Byte: b, Params: params, Inter: inter}
}

func osc(text string) api.Action { return api.Action{Kind: api.ActOsc, Text: text} }

func dcs(inter string, b byte, text string, params ...int) api.Action {
	return api.Action{Kind: api.ActDcs, Byte: b, Params: params, Inter: inter, Text: text}
}

func all(l ...api.Action) []api.Action { return l }

type telling struct {
	bytes string
	want  []api.Action
	state string
}

// tellings holds what texts tell a new parser, whole and byte by byte.
func tellings(t *testing.T, l []telling) {
	t.Helper()
	for _, c := range l {
		for _, pieces := range [][]string{{c.bytes}, single(c.bytes)} {
			p := New()
			var out []api.Action
			for _, s := range pieces {
				out = append(out, p.Feed([]byte(s))...)
			}
			if !slices.EqualFunc(out, c.want, same) || p.State() != c.state {
				t.Errorf("%q in %d pieces: %s, in %s; must be %s, in %s", c.bytes, len(pieces), told(out), p.State(), told(c.want), c.state)
			}
		}
	}
}

func TestExamples(t *testing.T) {
	tellings(t, []telling{
		{"\x1b[?25;h", all(csi("?", 'h', 25, -1)), "ground"},
		{"\x1b[m", all(csi("", 'm')), "ground"},
		{"\x1b[;m", all(csi("", 'm', -1, -1)), "ground"},
		{"\x1b[99999m", all(csi("", 'm', 9999)), "ground"},
		{"\x1b[4:3m", nil, "ground"},
		{"\x1b[1\n2A", all(control(10), csi("", 'A', 12)), "ground"},
		{"\x1b]0;hi\x07", all(osc("0;hi")), "ground"},
		{"\x1b]0;hi\x1b\\", all(osc("0;hi")), "ground"},
		{"\x1bP1$qm\x1b\\", all(dcs("$", 'q', "m", 1)), "ground"},
		{"\x1b\\", all(escaped("", '\\')), "ground"},
		{"\x1b[1\x18x", printed('x'), "ground"},
		{"\xc3\x1bc", append(printed(0xfffd), escaped("", 'c')), "ground"},
		{"\x1b(B", all(escaped("(", 'B')), "ground"},
		{"\x1b#  8", nil, "ground"},
		{"\xc3A", printed(0xfffd, 'A'), "ground"},
	})
	p := New()
	l := p.Feed([]byte("a\n\xc3"))
	l = append(l, p.Feed([]byte("\xa9"))...)
	if want := append(printed('a'), control(10), printed('é')[0]); !slices.EqualFunc(l, want, same) {
		t.Errorf("%s; must be %s", told(l), told(want))
	}
}

// V5.1

func TestNew(t *testing.T) {
	p := New()
	if p.State() != "ground" || len(p.Feed(nil)) != 0 || len(p.Feed([]byte{})) != 0 || p.State() != "ground" {
		t.Errorf("a new parser is in %s", p.State())
	}
}

func TestGround(t *testing.T) {
	tellings(t, []telling{
		{"", nil, "ground"},
		{" ~", printed(' ', '~'), "ground"},
		{"中\U0001f600\u0085", printed(0x4e2d, 0x1f600, 0x85), "ground"},
		{"\x80\xff\xc0\xaf", printed(0xfffd, 0xfffd, 0xfffd, 0xfffd), "ground"},
		{"\xe2\x82", nil, "ground"},
		{"\xe2\x82\x00", append(printed(0xfffd), control(0)), "ground"},
		{"\xe2\x82\x1b", printed(0xfffd), "escape"},
		{"\xe2\x82\x18\xac", printed(0xfffd), "ground"},
		{"\xe2\x82\x1a\xac", printed(0xfffd), "ground"},
		{"\xe2\x7f\x82\x7f\xac\x7f", printed(0x20ac), "ground"},
		{"\x7f\x18\x1a", nil, "ground"},
	})
	for b := byte(0); b < 32; b++ {
		if b != 24 && b != 26 && b != 27 {
			tellings(t, []telling{{string([]byte{b}), all(control(b)), "ground"}})
		}
	}
}

func TestEscape(t *testing.T) {
	tellings(t, []telling{
		{"\x1b", nil, "escape"},
		{"\x1b\x1b7", all(escaped("", '7')), "ground"},
		{"\x1b0\x1b~", all(escaped("", '0'), escaped("", '~')), "ground"},
		{"\x1b /", nil, "escape"},
		{"\x1b /0", all(escaped(" /", '0')), "ground"},
		{"\x1b()*", nil, "ignore"},
		{"\x1b()*\n \x7f(", all(control(10)), "ignore"},
		{"\x1b()*0x", printed('x'), "ground"},
		{"\x1b([\x1b)]\x1b*P\x1b+X\x1b-^\x1b._\x1b/\\", all(escaped("(", '['), escaped(")", ']'), escaped("*", 'P'), escaped("+", 'X'), escaped("-", '^'), escaped(".", '_'), escaped("/", '\\')), "ground"},
		{"\x1b(\x1bB", all(escaped("", 'B')), "ground"},
		{"\x1b(\x18B", printed('B'), "ground"},
		{"\x1b(\x1aB", printed('B'), "ground"},
		{"\x1b(\x7f\nB", all(control(10), escaped("(", 'B')), "ground"},
		{"\x1b\xc3\xa9", printed(0xe9), "ground"},
		{"\x1b(\x80B", printed(0xfffd, 'B'), "ground"},
		{"\x1b()*\xc3\xa9", printed(0xe9), "ground"},
	})
}

func TestCsi(t *testing.T) {
	tellings(t, []telling{
		{"\x1b[", nil, "csi"},
		{"\x1b[@\x1b[~", all(csi("", '@'), csi("", '~')), "ground"},
		{"\x1b[0m\x1b[007m\x1b[9999m\x1b[10000m\x1b[00010000m", all(csi("", 'm', 0), csi("", 'm', 7), csi("", 'm', 9999), csi("", 'm', 9999), csi("", 'm', 9999)), "ground"},
		{"\x1b[1;;3m\x1b[;1m\x1b[1;m\x1b[;;m", all(csi("", 'm', 1, -1, 3), csi("", 'm', -1, 1), csi("", 'm', 1, -1), csi("", 'm', -1, -1, -1)), "ground"},
		{"\x1b[?m\x1b[<1m\x1b[=;m\x1b[>0c", all(csi("?", 'm'), csi("<", 'm', 1), csi("=", 'm', -1, -1), csi(">", 'c', 0)), "ground"},
		{"\x1b[ q\x1b[!p\x1b[?1$p\x1b[?1 /p", all(csi(" ", 'q'), csi("!", 'p'), csi("?$", 'p', 1), csi("? /", 'p', 1)), "ground"},
		{"\x1b[!!!", nil, "ignore"},
		{"\x1b[?!!!pA", printed('A'), "ground"},
		{"\x1b[1!2pA", printed('A'), "ground"},
		{"\x1b[1!;pA", printed('A'), "ground"},
		{"\x1b[1!:pA", printed('A'), "ground"},
		{"\x1b[1!?pA", printed('A'), "ground"},
		{"\x1b[!?pA", printed('A'), "ground"},
		{"\x1b[??pA", printed('A'), "ground"},
		{"\x1b[?<pA", printed('A'), "ground"},
		{"\x1b[1?pA", printed('A'), "ground"},
		{"\x1b[;?pA", printed('A'), "ground"},
		{"\x1b[:pA", printed('A'), "ground"},
		{"\x1b[:0;?[\x1b[:07", nil, "ignore"},
		{"\x1b[1;\x1b[2m", all(csi("", 'm', 2)), "ground"},
		{"\x1b[1;\x1aA", printed('A'), "ground"},
		{"\x1b[1\x7f2\x07;\x003m", all(control(7), control(0), csi("", 'm', 12, 3)), "ground"},
		{"\x1b[\n?\x7f1m", all(control(10), csi("?", 'm', 1)), "ground"},
		{"\x1b[1\xe4\xb8\xadm", printed(0x4e2d, 'm'), "ground"},
		{"\x1b[:\xffm", printed(0xfffd, 'm'), "ground"},
		{"\x1b[:\x7f\x071m", all(control(7)), "ground"},
		{"\x1b[:\x1b[1m", all(csi("", 'm', 1)), "ground"},
		{"\x1b[:\x18m", printed('m'), "ground"},
	})
}

func TestManyParams(t *testing.T) {
	for n := 1; n < 80; n++ {
		var s []string
		var want []int
		for i := range n {
			s = append(s, fmt.Sprint(100+i))
			if i < 32 {
				want = append(want, 100+i)
			}
		}
		numbers := strings.Join(s, ";")
		tellings(t, []telling{
			{"\x1b[" + numbers + "m", all(csi("", 'm', want...)), "ground"},
			{"\x1b[?" + numbers + "$m", all(csi("?$", 'm', want...)), "ground"},
			{"\x1bP" + numbers + "mx\x1b\\", all(dcs("", 'm', "x", want...)), "ground"},
		})
		empty := slices.Repeat([]int{-1}, min(n+1, 32))
		tellings(t, []telling{{"\x1b[" + strings.Repeat(";", n) + "m", all(csi("", 'm', empty...)), "ground"}})
	}
	for n := range 40 {
		digits := strings.Repeat("0", n) + "7" + strings.Repeat("0", n)
		want := []int{7, 70, 700, 7000, 9999}[min(n, 4)]
		tellings(t, []telling{{"\x1b[" + digits + "m", all(csi("", 'm', want)), "ground"}})
	}
}

// What is kept of a sequence stays small, however long it is.
func TestLittleIsKept(t *testing.T) {
	p := New()
	p.Feed([]byte("\x1b[" + strings.Repeat("123456789;", 50000)))
	if n := len(p.begun.action.Params); n > 33 {
		t.Errorf("%d numbers are kept", n)
	}
	p.Feed([]byte("\x1b]" + strings.Repeat("123456789;", 50000)))
	if n := len(p.begun.text); n > 1024 {
		t.Errorf("%d bytes are kept", n)
	}
	p.Feed([]byte("\x1b" + strings.Repeat(" ", 50000)))
	if n := len(p.begun.action.Inter); n > 3 {
		t.Errorf("%d bytes are kept", n)
	}
	for _, over := range []string{"\x1b[1m", "\x1b]text\x07", "\x1bP1$qtext\x18", "\x1b[1:m", "\x1b(\x80"} {
		p.Feed([]byte(over))
		if p.begun.text != nil || p.begun.action.Params != nil || p.begun.action.Inter != "" {
			t.Errorf("%q is over, and this is kept: %v", over, p.begun)
		}
	}
}

func TestOsc(t *testing.T) {
	tellings(t, []telling{
		{"\x1b]", nil, "osc"},
		{"\x1b]\x07\x1b]\x1b", all(osc(""), osc("")), "escape"},
		{"\x1b]a\x00\n\x1f\x7f\x80\xffé\x07", all(osc("a\x7f\x80\xffé")), "ground"},
		{"\x1b]a\x18\x1b\\", all(escaped("", '\\')), "ground"},
		{"\x1b]a\x1ab\x07", append(printed('b'), control(7)), "ground"},
		{"\x1b]a\x1b[1m", all(osc("a"), csi("", 'm', 1)), "ground"},
		{"\x1b]a\x1b]b\x07", all(osc("a"), osc("b")), "ground"},
		{"\x1b]a\x1b(\\", all(osc("a"), escaped("(", '\\')), "ground"},
		{"\x1b]a\x1b\n\x7f\\", all(osc("a"), control(10)), "ground"},
		{"\x1b]a\x1b\x1b\\", all(osc("a"), escaped("", '\\')), "ground"},
		{"\x1b]a\x1b\\\x1b\\", all(osc("a"), escaped("", '\\')), "ground"},
		{"\x1b]a\x07\x1b\\", all(osc("a"), escaped("", '\\')), "ground"},
		{"\x1b]a\x1b\x80\x1b\\", append(append(all(osc("a")), printed(0xfffd)...), escaped("", '\\')), "ground"},
		{"\x1b]a\x1b\x18\x1b\\", all(osc("a"), escaped("", '\\')), "ground"},
		{"\x1b]a\x1b7\x1b\\", all(osc("a"), escaped("", '7'), escaped("", '\\')), "ground"},
	})
}

func TestDcs(t *testing.T) {
	tellings(t, []telling{
		{"\x1bP", nil, "dcs"},
		{"\x1bPq", nil, "data"},
		{"\x1bPq\x07\x00\n", nil, "data"},
		{"\x1bPq\x1b", all(dcs("", 'q', "")), "escape"},
		{"\x1bP@\x1bP~\x1b\\", all(dcs("", '@', ""), dcs("", '~', "")), "ground"},
		{"\x1bP?1;;2 /qa\x07b\x7f\x80\x1b\\c", append(all(dcs("? /", 'q', "ab\x7f\x80", 1, -1, 2)), printed('c')...), "ground"},
		{"\x1bP1\n2qx\x1b\\", all(control(10), dcs("", 'q', "x", 12)), "ground"},
		{"\x1bPqx\x18\x1b\\", all(escaped("", '\\')), "ground"},
		{"\x1bPqx\x1ay", printed('y'), "ground"},
		{"\x1bP1\x1b\\", all(escaped("", '\\')), "ground"},
		{"\x1bP1\x18q", printed('q'), "ground"},
		{"\x1bP1\xc3\xa9q", printed(0xe9, 'q'), "ground"},
		{"\x1bP1:", nil, "ignore"},
		{"\x1bP1:q", nil, "string"},
		{"\x1bP1:qx\x1b\\y", printed('y'), "ground"},
		{"\x1bP1:\x1b\\", all(escaped("", '\\')), "ground"},
		{"\x1bP1:\n0\xffq", append(all(control(10)), printed(0xfffd, 'q')...), "ground"},
		{"\x1bP!!!q\x07x", nil, "string"},
		{"\x1bP??qx\x18y", printed('y'), "ground"},
		{"\x1bP1?qx\x1bcy", append(all(escaped("", 'c')), printed('y')...), "ground"},
		{"\x1bP$1qx\x1b\\y", printed('y'), "ground"},
	})
}

func TestString(t *testing.T) {
	for _, opening := range []string{"\x1bX", "\x1b^", "\x1b_"} {
		tellings(t, []telling{
			{opening, nil, "string"},
			{opening + "a\x07\n\x00\x7f\x80\xc3\xa9[1m", nil, "string"},
			{opening + "a\x1b", nil, "escape"},
			{opening + "a\x1b\\b", printed('b'), "ground"},
			{opening + "a\x1b\\\x1b\\", all(escaped("", '\\')), "ground"},
			{opening + "a\x1b\x1b\\", all(escaped("", '\\')), "ground"},
			{opening + "a\x1b[1m", all(csi("", 'm', 1)), "ground"},
			{opening + "a\x18b", printed('b'), "ground"},
			{opening + "a\x1ab", printed('b'), "ground"},
		})
	}
}

func TestLongStrings(t *testing.T) {
	for _, n := range []int{1022, 1023, 1024, 1025, 3000} {
		s := strings.Repeat("ab\xff", n)[:n]
		want := s[:min(n, 1024)]
		tellings(t, []telling{
			{"\x1b]" + s + "\x07", all(osc(want)), "ground"},
			{"\x1b]" + s + "\x1b\\", all(osc(want)), "ground"},
			{"\x1b]\n" + s[:9] + "\x01" + s[9:] + "\x07", all(osc(want)), "ground"},
			{"\x1bPq" + s + "\x1b\\", all(dcs("", 'q', want)), "ground"},
			{"\x1bX" + s + "\x1b\\", nil, "ground"},
		})
	}
}

// Each state's name, and Reset in it (V5.1).
func TestReset(t *testing.T) {
	seen := map[string]int{}
	for _, head := range heads {
		_, state := read(head)
		seen[state]++
		p := New()
		p.Feed([]byte(head))
		if p.State() != state {
			t.Errorf("%q: %s, must be %s", head, p.State(), state)
		}
		p.Reset()
		if p.State() != "ground" {
			t.Errorf("%q and Reset: %s", head, p.State())
		}
		for _, more := range heads {
			q := New()
			more += "\xa9\\;1q\x1b\\A"
			if l, want := p.Feed([]byte(more)), q.Feed([]byte(more)); !slices.EqualFunc(l, want, same) || p.State() != q.State() {
				t.Errorf("%q, Reset and %q: %s, must be %s", head, more, told(l), told(want))
			}
			p.Feed([]byte(head))
			p.Reset()
		}
	}
	if len(seen) != 8 {
		t.Errorf("only %v are tried", seen)
	}
}

// In ground, with nothing pending, a parser is as new (V5.4).
func TestGroundIsAsNew(t *testing.T) {
	r := rand.New(rand.NewSource(54))
	for range 3000 {
		p, q := New(), New()
		for p.State() != "ground" || p.decoder.Pending() > 0 || r.Intn(3) > 0 {
			p.Feed([]byte(piece(r)))
		}
		for range 4 {
			more := []byte(piece(r))
			if l, want := p.Feed(more), q.Feed(more); !slices.EqualFunc(l, want, same) || p.State() != q.State() {
				t.Fatalf("%q: %s, in %s; must be %s, in %s", more, told(l), p.State(), told(want), q.State())
			}
		}
	}
}

// V5.2, P3

func TestFeedKeepsNothing(t *testing.T) {
	text := []byte("a\x1b[?1;2$mb\x1b]0;title\x1b\\\x1bP1;2$qdata\x1b\\\x1b(B\xc3\xa9\x1b[3;4m")
	want, _ := read(string(text))
	for cut := range len(text) {
		p := New()
		room := append(slices.Clone(text), "XXXX"...)
		first := room[:cut]
		l := p.Feed(first)
		if !bytes.Equal(room, append(slices.Clone(text), "XXXX"...)) {
			t.Fatalf("Feed wrote: %q", room)
		}
		for i := range room {
			room[i] = 'z'
		}
		for _, a := range l {
			for i := range a.Params[:cap(a.Params)] {
				a.Params[:cap(a.Params)][i] = 7777
			}
		}
		more := p.Feed(slices.Clone(text[cut:]))
		rest := want[len(l):]
		if !slices.EqualFunc(more, rest, same) {
			t.Fatalf("cut at %d: %s, must be %s", cut, told(more), told(rest))
		}
	}
}

func TestWhatIsToldIsNew(t *testing.T) {
	p := New()
	text := []byte("\x1b[1;2;3m\x1b[4;5;6m\x1bP7;8;9q0\x1b\\\x1b[" + strings.Repeat("1;", 40) + "m")
	l := p.Feed(text)
	for i := range l {
		before := told(l[i+1:])
		list := l[i].Params
		for j := range list[:cap(list)] {
			list[:cap(list)][j] = 7777
		}
		if s := told(l[i+1:]); s != before {
			t.Errorf("what was told last is %s, was %s", s, before)
		}
	}
	want, _ := read(string(text))
	if again := p.Feed(text); !slices.EqualFunc(again, want, same) {
		t.Errorf("told anew: %s, must be %s", told(again), told(want))
	}
}

func TestParsersAreApart(t *testing.T) {
	p, q := New(), New()
	for i := range len("\x1b[1;2m") {
		p.Feed([]byte("\x1b[1;2m")[i : i+1])
		if l := q.Feed([]byte{'a' + byte(i)}); !slices.EqualFunc(l, printed('a'+rune(i)), same) {
			t.Errorf("%s", told(l))
		}
	}
}

// V5.3

var (
	heading = regexp.MustCompile(`^([<=>?]?)([ -/]{0,2})$`)
	escapes = regexp.MustCompile(`^\x1b([ -/]{1,2}[0-~]|[0-OQ-WYZ\\` + "`" + `-~])$`)
	steers  = regexp.MustCompile(`[\x00-\x1f]`)
)

// bytesOf is what Print must make of an action, worked out another way: its bytes, if they have the right form.
func bytesOf(a api.Action) string {
	last := string([]byte{a.Byte})
	head, isHead := headOf(a)
	isText := len(a.Text) <= 1024 && !steers.MatchString(a.Text)
	switch a.Kind {
	case api.ActPrint:
		if s := string(a.Rune); utf8.RuneCountInString(s) == 1 && []rune(s)[0] == a.Rune && s != "\x7f" && !steers.MatchString(s) {
			return s
		}
	case api.ActControl:
		if steers.MatchString(last) && !strings.Contains("\x18\x1a\x1b", last) {
			return last
		}
	case api.ActEsc:
		if s := "\x1b" + a.Inter + last; escapes.MatchString(s) {
			return s
		}
	case api.ActCsi:
		if isHead {
			return "\x1b[" + head
		}
	case api.ActOsc:
		if isText {
			return "\x1b]" + a.Text + "\x07"
		}
	case api.ActDcs:
		if isHead && isText {
			return "\x1bP" + head + a.Text + "\x1b\\"
		}
	}
	return ""
}

// headOf is a CSI's or a DCS's head; false: it has none of the right form.
func headOf(a api.Action) (string, bool) {
	m := heading.FindStringSubmatch(a.Inter)
	if m == nil || a.Byte < '@' || a.Byte > '~' || len(a.Params) > 32 || slices.Equal(a.Params, []int{-1}) {
		return "", false
	}
	var l []string
	for _, n := range a.Params {
		if n < -1 || n > 9999 {
			return "", false
		}
		l = append(l, strings.ReplaceAll(fmt.Sprint(n), "-1", ""))
	}
	return m[1] + strings.Join(l, ";") + m[2] + string([]byte{a.Byte}), true
}

// prints holds Print of each action, and what a new parser is told by it, against what they must be (V5.3, V5.4).
func prints(t *testing.T, l ...api.Action) {
	t.Helper()
	for _, a := range l {
		s := string(Print([]api.Action{a}))
		if want := bytesOf(a); s != want {
			t.Errorf("Print of %s: %q, must be %q", told(all(a)), s, want)
		}
		if s == "" {
			continue
		}
		p := New()
		if back := p.Feed([]byte(s)); !slices.EqualFunc(back, all(used(a)), same) || p.State() != "ground" {
			t.Errorf("Print of %s: %q tells %s", told(all(a)), s, told(back))
		}
	}
}

// used is an action with those fields alone that its kind uses.
func used(a api.Action) api.Action {
	switch a.Kind {
	case api.ActPrint:
		return api.Action{Kind: a.Kind, Rune: a.Rune}
	case api.ActControl:
		return control(a.Byte)
	case api.ActEsc:
		return escaped(a.Inter, a.Byte)
	case api.ActCsi:
		return csi(a.Inter, a.Byte, a.Params...)
	case api.ActOsc:
		return osc(a.Text)
	}
	return dcs(a.Inter, a.Byte, a.Text, a.Params...)
}

func TestPrintExamples(t *testing.T) {
	for _, c := range []struct {
		l    []api.Action
		want string
	}{
		{nil, ""},
		{printed('a', 'é', 0x4e2d, 0x10ffff, 0xfffd, 0x80), "aé中\U0010ffff\ufffd\u0080"},
		{printed(-1, 0, 10, 27, 31, 127, 0xd800, 0xdfff, 0x110000, math.MinInt32, math.MaxInt32), ""},
		{all(control(0), control(7), control(31)), "\x00\x07\x1f"},
		{all(control(24), control(26), control(27), control(32), control(127), control(255)), ""},
		{all(escaped("", '7'), escaped("(", 'B'), escaped(" /", '['), escaped("", '\\'), escaped("", '~')), "\x1b7\x1b(B\x1b /[\x1b\\\x1b~"},
		{all(escaped("", '['), escaped("", ']'), escaped("", 'P'), escaped("", 'X'), escaped("", '^'), escaped("", '_')), ""},
		{all(escaped("", '/'), escaped("", 127), escaped("", 0), escaped("(", 255), escaped("()*", 'B'), escaped("?", 'B'), escaped("0", 'B'), escaped("\x1f", 'B'), escaped("é", 'B')), ""},
		{all(csi("", 'm'), csi("?", 'h', 25, -1), csi("", 'm', -1, -1), csi("? /", 'p', 0, 9999), csi("!", '~')), "\x1b[m\x1b[?25;h\x1b[;m\x1b[?0;9999 /p\x1b[!~"},
		{all(csi("", 'm', -1), csi("", 'm', -2), csi("", 'm', 10000), csi("", 'm', 1, math.MinInt), csi("", 'm', math.MaxInt, 1)), ""},
		{all(csi("", '?'), csi("", 127), csi("", 128), csi("", 0), csi("!!!", 'p'), csi("?!!!", 'p'), csi("??", 'p'), csi("!?", 'p'), csi("1", 'p'), csi(":", 'p')), ""},
		{all(osc(""), osc("0;hi"), osc("\x7f\x80é")), "\x1b]\x07\x1b]0;hi\x07\x1b]\x7f\x80é\x07"},
		{all(osc("a\x00"), osc("\x1b"), osc("\x18"), osc("a\x07"), osc("\x1f")), ""},
		{all(dcs("$", 'q', "m", 1), dcs("? /", '~', "", -1, 2)), "\x1bP1$qm\x1b\\\x1bP?;2 /~\x1b\\"},
		{all(dcs("", 'q', "\n"), dcs("", 'q', "", -1), dcs("", '?', ""), dcs("!!!", 'q', ""), dcs("", 'q', "", 10000)), ""},
		{all(api.Action{}, api.Action{Kind: 7, Byte: 'a', Rune: 'a'}, api.Action{Kind: -1, Rune: 'a'}, api.Action{Kind: math.MaxInt, Text: "x"}), ""},
		{all(control(27), printed('a')[0], csi("", 'm', -1), csi("", 'm', 1)), "a\x1b[1m"},
	} {
		if s := string(Print(c.l)); s != c.want {
			t.Errorf("Print of %s: %q, must be %q", told(c.l), s, c.want)
		}
		for _, a := range c.l {
			prints(t, a)
		}
	}
}

func TestPrintOfEveryByte(t *testing.T) {
	inters := []string{"", " ", "/", "!#", "()*", "<", "=", ">", "?", ";", ":", "0", "@", "?!", "? /", "?!!!", "!?", "??", "<?", "é", "\x1f", "\x7f", "\x80", "0!"}
	for b := range 256 {
		prints(t, control(byte(b)))
		prints(t, osc(string([]byte{'a', byte(b)})), dcs("", 'q', string([]byte{byte(b), 'a'})))
		for _, inter := range inters {
			prints(t, escaped(inter, byte(b)), csi(inter, byte(b)), csi(inter, byte(b), 1), dcs(inter, byte(b), "x", 2, 3))
		}
		prints(t, escaped(string([]byte{byte(b)}), 'B'), csi(string([]byte{byte(b)}), 'm'), dcs(string([]byte{'?', byte(b)}), 'm', ""))
	}
}

func TestPrintOfEveryRune(t *testing.T) {
	p := New()
	for r := rune(-300); r < utf8.MaxRune+300; r++ {
		a := printed(r)
		s := string(Print(a))
		if want := bytesOf(a[0]); s != want {
			t.Fatalf("Print of %U: %q, must be %q", r, s, want)
		}
		if l := p.Feed([]byte(s)); s != "" && !slices.EqualFunc(l, a, same) {
			t.Fatalf("Print of %U tells %s", r, told(l))
		}
	}
}

func TestPrintOfLimits(t *testing.T) {
	for n := -3; n < 10003; n++ {
		prints(t, csi("", 'm', n), csi("", 'm', n, 1), dcs("", 'm', "", 1, n))
	}
	for _, n := range []int{math.MinInt, math.MinInt32, -10000, 10100, 65536, 1<<32 + 1, math.MaxInt} {
		prints(t, csi("", 'm', n), csi("", 'm', 1, n), dcs("", 'm', "", n))
	}
	for n := range 70 {
		prints(t, csi("", 'm', slices.Repeat([]int{-1}, n)...), csi("?!!", 'm', slices.Repeat([]int{9999}, n)...), dcs("", 'm', "x", slices.Repeat([]int{0}, n)...))
	}
	for _, n := range []int{1023, 1024, 1025, 5000} {
		prints(t, osc(strings.Repeat("\xff", n)), dcs("", 'm', strings.Repeat(" ", n)))
	}
}

// Fields that a kind does not use are of no account.
func TestPrintOfOtherFields(t *testing.T) {
	full := api.Action{Rune: 0xd800, Byte: 27, Params: []int{-7, 100000}, Inter: "\x00\x00\x00", Text: "\x18" + strings.Repeat("a", 2000)}
	for kind, fill := range map[int]func(a *api.Action){
		api.ActPrint:   func(a *api.Action) { a.Rune = 'x' },
		api.ActControl: func(a *api.Action) { a.Byte = 9 },
		api.ActEsc:     func(a *api.Action) { a.Byte, a.Inter = 'B', "(" },
		api.ActCsi:     func(a *api.Action) { a.Byte, a.Inter, a.Params = 'm', "?", []int{1} },
		api.ActOsc:     func(a *api.Action) { a.Text = "x" },
		api.ActDcs:     func(a *api.Action) { a.Byte, a.Inter, a.Params, a.Text = 'm', "?", []int{1}, "x" },
	} {
		a := full
		a.Kind = kind
		prints(t, a)
		fill(&a)
		prints(t, a)
		if s, want := string(Print(all(a))), string(Print(all(used(a)))); s != want || s == "" {
			t.Errorf("kind %d: %q, must be %q", kind, s, want)
		}
	}
}

func TestPrintWritesNothing(t *testing.T) {
	params := []int{1, 2, 3}
	l := all(csi("?", 'm', params...), dcs("$", 'q', "x", params[:2]...), printed('a')[0])
	before := told(l)
	first := Print(l[:2])
	again := Print(l[:2])
	again[0] = 'X'
	if first[0] != 27 || told(l) != before || !slices.Equal(params, []int{1, 2, 3}) {
		t.Errorf("%q, %s, %v", first, told(l), params)
	}
}

// someAction is an action, most of the time one that can be told.
func someAction(r *rand.Rand) api.Action {
	one := func(l []string) string { return l[r.Intn(len(l))] }
	a := api.Action{Kind: 1 + r.Intn(6), Rune: rune(r.Intn(0x11000)), Byte: byte(r.Intn(32))}
	if a.Kind >= api.ActEsc {
		a.Byte = byte(48 + r.Intn(80))
	}
	a.Inter = one([]string{"", "", "", "?", "$", "(", " !", "?$", "> !", "???", "!!!"})
	for range r.Intn(34) * r.Intn(2) {
		a.Params = append(a.Params, r.Intn(10002)-1)
	}
	a.Text = one([]string{"", "0;title", "é中", "\x80\xff", "\x7f", "a\nb", strings.Repeat("x", 1023+r.Intn(3))})
	return a
}

// Feed of Print of actions tells those of them that can be told; what is told can be told (V5.4).
func TestThereAndBack(t *testing.T) {
	r := rand.New(rand.NewSource(53))
	can, cannot := 0, 0
	for range 4000 {
		var l, want []api.Action
		for range 1 + r.Intn(8) {
			a := someAction(r)
			l = append(l, a)
			if bytesOf(a) == "" {
				cannot++
				continue
			}
			can++
			want = append(want, used(a))
		}
		p := New()
		if back := p.Feed(Print(l)); !slices.EqualFunc(back, want, same) || p.State() != "ground" {
			t.Fatalf("Print of %s tells %s", told(l), told(back))
		}
	}
	if can < 4000 || cannot < 1000 {
		t.Errorf("%d actions that can be told, %d that cannot", can, cannot)
	}
	for range 4000 {
		p := New()
		var l []api.Action
		for range 12 {
			l = append(l, p.Feed([]byte(piece(r)))...)
		}
		if back := New().Feed(Print(l)); !slices.EqualFunc(back, l, same) {
			t.Fatalf("Print of %s tells %s", told(l), told(back))
		}
	}
}
