package format

import (
	"errors"
	"fmt"
	"math/rand"
	"regexp"
	"slices"
	"strconv"
	"strings"
	"testing"

	"mullion/api"
	"mullion/calc"
	"mullion/cell"
)

// node is a sign (or a `#` with the sign that it is passed over with), or an expression's nodes: the model reads a text as a tree, once.
type node struct {
	sign  string
	inner []node
	is    bool // an expression
}

var signs = regexp.MustCompile(`(?s)##|#,|#}|#\{|.`)

// wide is a text whose runes are the bytes of another, narrow the way back: regular expressions go by runes.
func wide(s string) string {
	var l []rune
	for _, b := range []byte(s) {
		l = append(l, rune(b))
	}
	return string(l)
}

func narrow(s string) string {
	var l []byte
	for _, r := range s {
		l = append(l, byte(r))
	}
	return string(l)
}

func split(s string) []string {
	l := signs.FindAllString(wide(s), -1)
	for i, one := range l {
		l[i] = narrow(one)
	}
	return l
}

// grow makes nodes of signs, up to the `}` that closes them, if they are within an expression; what is left; whether they are closed.
func grow(l []string, within bool) ([]node, []string, bool) {
	var out []node
	for len(l) > 0 {
		one := l[0]
		l = l[1:]
		switch {
		case one == "}" && within:
			return out, l, true
		case one == "#{":
			inner, rest, closed := grow(l, true)
			if !closed {
				return append(out, node{sign: "#{"}), nil, false // what is behind is not made
			}
			out = append(out, node{inner: inner, is: true})
			l = rest
		default:
			out = append(out, node{sign: one})
		}
	}
	return out, nil, !within
}

func tree(s string) []node {
	l, _, _ := grow(split(s), false)
	return l
}

func raw(l []node) string {
	s := ""
	for _, n := range l {
		if n.is {
			s += "#{" + raw(n.inner) + "}"
		} else {
			s += n.sign
		}
	}
	return s
}

// part parts nodes at an outside sign, into at most so many.
func part2(l []node, sign string, most int) [][]node {
	for i, n := range l {
		if most > 1 && !n.is && n.sign == sign {
			return append([][]node{l[:i]}, part2(l[i+1:], sign, most-1)...)
		}
	}
	return [][]node{l}
}

type model struct{ steps int }

func bound(s string, e error) (string, error) {
	if e == nil && len(s) > 8192 {
		e = api.ErrLong
	}
	if e != nil {
		s = ""
	}
	return s, e
}

func lookup(name string, in []api.Scope) (string, bool) {
	for _, s := range slices.Backward(in) {
		if i := slices.IndexFunc(s.Vars, func(p api.Pair) bool { return p.Name == name }); i >= 0 {
			return s.Vars[i].Value, true
		}
	}
	return "", false
}

func (m *model) text(l []node, in []api.Scope, deep int) (string, error) {
	out := ""
	letters := map[string]string{"S": "session_name", "W": "window_name", "I": "window_index", "P": "pane_index", "F": "window_flags", "T": "pane_title", "D": "pane_id", "H": "host"}
	for i := 0; i < len(l); i++ {
		var more string
		var e error
		n := l[i]
		switch {
		case n.is:
			more, e = m.expression(n.inner, in, deep+1)
		case n.sign == "#{":
			e = api.ErrForm
		case len(n.sign) == 2:
			more = n.sign[1:]
		case n.sign == "#" && i+1 < len(l) && !l[i+1].is && letters[l[i+1].sign] != "":
			i++
			more, _ = lookup(letters[l[i].sign], in)
		default:
			more = n.sign
		}
		if more, e = bound(more, e); e != nil {
			return "", e
		}
		if out, e = bound(out+more, nil); e != nil {
			return "", e
		}
	}
	return out, nil
}

// texts are several, each one expanded unless one ahead was wrong.
func (m *model) texts(in []api.Scope, deep int, l ...[]node) ([]string, error) {
	var out []string
	for _, one := range l {
		s, e := m.text(one, in, deep)
		if e != nil {
			return nil, e
		}
		out = append(out, s)
	}
	return out, nil
}

func (m *model) known(l []node, in []api.Scope, deep int) (string, error) {
	s := raw(l)
	if v, is := lookup(s, in); is {
		return bound(v, nil)
	}
	if strings.Contains(s, "#") {
		return m.text(l, in, deep)
	}
	return "", nil
}

func (m *model) took() error {
	m.steps++
	if m.steps > 10000 {
		return api.ErrMany
	}
	return nil
}

func bit(is bool) string {
	if is {
		return "1"
	}
	return "0"
}

func yes(s string) bool { return !slices.Contains([]string{"", "0"}, s) }

func (m *model) expression(c []node, in []api.Scope, deep int) (string, error) {
	if deep > 16 {
		return "", api.ErrDeep
	}
	if e := m.took(); e != nil {
		return "", e
	}
	if len(c) > 0 && c[0].sign == "?" {
		l := append(part2(c[1:], ",", 3), nil, nil)
		s, e := m.known(l[0], in, deep)
		if e != nil {
			return "", e
		}
		if yes(s) {
			return m.text(l[1], in, deep)
		}
		return m.text(l[2], in, deep)
	}
	two := part2(c, ":", 2)
	if len(two) == 1 {
		v, _ := lookup(raw(c), in)
		return bound(v, nil)
	}
	head, rest := raw(two[0]), two[1]
	if strings.HasPrefix(head, "e|") {
		return m.sum(head, rest, in, deep)
	}
	switch head {
	case "==", "!=", "<", ">", "<=", ">=", "||", "&&", "m":
		l := part2(rest, ",", 2)
		if len(l) == 1 {
			return "", api.ErrForm
		}
		s, e := m.texts(in, deep, l...)
		if e != nil {
			return "", e
		}
		order := strings.Compare(s[0], s[1])
		return bit(map[string]bool{"==": order == 0, "!=": order != 0, "<": order < 0, ">": order > 0, "<=": order <= 0, ">=": order >= 0, "||": yes(s[0]) || yes(s[1]), "&&": yes(s[0]) && yes(s[1]), "m": head == "m" && means(s[0], s[1])}[head]), nil
	case "S", "W", "P":
		return m.all(head[0], part2(rest, ",", 2), in, deep)
	}
	return m.changed(raw(c), in, deep)
}

func (m *model) sum(head string, rest []node, in []api.Scope, deep int) (string, error) {
	l := regexp.MustCompile(`^e\|(==|!=|<=|>=|[-+*/m<>])(?:\|(f?)(?:\|(\d\d?))?)?$`).FindStringSubmatch(wide(head))
	two := part2(rest, ",", 2)
	if l == nil || len(two) == 1 {
		return "", api.ErrForm
	}
	places := l[3]
	if places == "" {
		places = map[string]string{"f": "2", "": "0"}[l[2]]
	}
	n, _ := strconv.Atoi(places)
	s, e := m.texts(in, deep, two...)
	if e != nil {
		return "", e
	}
	out, errno := calc.Reckon(l[1], s[0], s[1], l[2] == "f", n)
	if errno != api.OK {
		return "", api.ErrForm
	}
	return out, nil
}

func (m *model) all(kind byte, pieces [][]node, in []api.Scope, deep int) (string, error) {
	for _, s := range slices.Backward(in) {
		for _, l := range s.Loops {
			if l.Kind != kind {
				continue
			}
			out := ""
			for _, one := range l.Scopes {
				if e := m.took(); e != nil {
					return "", e
				}
				piece := pieces[0]
				if len(pieces) == 2 {
					active, _ := lookup("active", []api.Scope{one})
					if _, e := bound(active, nil); e != nil {
						return "", e
					}
					if yes(active) {
						piece = pieces[1]
					}
				}
				more, e := m.text(piece, append(slices.Clone(in), one), deep)
				if e != nil {
					return "", e
				}
				if out, e = bound(out+more, nil); e != nil {
					return "", e
				}
			}
			return out, nil
		}
	}
	return "", nil
}

// cut takes the modifiers off the front; a nil list: there are none.
func cutModifiers(c string) ([]string, string) {
	var l []string
	for {
		one := ""
		if len(c) > 1 && c[0] == 's' {
			q := regexp.QuoteMeta(wide(c[1:2]))
			one = regexp.MustCompile("(?s)^s" + q + ".+?" + q + ".*?" + q).FindString(wide(c))
			if strings.HasPrefix(c[2:], c[1:2]) {
				one = ""
			}
		} else {
			one = regexp.MustCompile(`^(?:[=p]-?\d{1,3}|[bdnwulE])`).FindString(wide(c))
		}
		one = narrow(one)
		if one == "" || len(c) == len(one) {
			return nil, ""
		}
		l = append(l, one)
		behind := c[len(one)]
		c = c[len(one)+1:]
		switch behind {
		case ':':
			return l, c
		case ';':
		default:
			return nil, ""
		}
	}
}

func (m *model) changed(c string, in []api.Scope, deep int) (string, error) {
	l, rest := cutModifiers(c)
	if l == nil {
		return "", api.ErrForm
	}
	s, e := rest, error(nil)
	if !slices.Contains(l, "l") {
		if s, e = m.known(tree(rest), in, deep); e != nil {
			return "", e
		}
	}
	if slices.Contains(l, "E") {
		if deep == 16 {
			return "", api.ErrDeep
		}
		if s, e = m.text(tree(s), in, deep); e != nil {
			return "", e
		}
	}
	for _, one := range l {
		if s, e = bound(turned(one, s), nil); e != nil {
			return "", e
		}
	}
	return s, nil
}

func turned(one, s string) string {
	number := strings.TrimLeft(one, "=p-")
	n, _ := strconv.Atoi(number)
	left := strings.Contains(one, "-")
	at := strings.Split(s, "/")
	switch one[0] {
	case '=':
		if left {
			return cell.CutLeft(s, n)
		}
		return cell.Cut(s, n)
	case 'p':
		for range n - cell.Columns(s) {
			s = map[bool]string{true: " " + s, false: s + " "}[left]
		}
	case 's':
		l := strings.Split(one[2:], one[1:2])
		return strings.Join(strings.Split(s, l[0]), l[1])
	case 'b':
		return at[len(at)-1]
	case 'd':
		dir := strings.Join(at[:len(at)-1], "/")
		switch {
		case len(at) == 1:
			return "."
		case dir == "":
			return "/"
		}
		return dir
	case 'n':
		return fmt.Sprint(len(s))
	case 'w':
		return fmt.Sprint(cell.Columns(s))
	case 'u':
		return narrow(regexp.MustCompile("[a-z]").ReplaceAllStringFunc(wide(s), strings.ToUpper))
	}
	return s
}

var bracketed = regexp.MustCompile(`(?s)^\[([!^]?)(.[^\]]*)\]`)

func means(pattern, s string) bool { return meaning(pattern).MatchString(wide(s)) }

// meaning makes a regular expression of a pattern.
func meaning(pattern string) *regexp.Regexp {
	p, out := wide(pattern), "(?s)^"
	for p != "" {
		l := bracketed.FindStringSubmatch(p)
		if l != nil && l[1] == "" && (l[2][0] == '!' || l[2][0] == '^') {
			l = nil // `[!]`: the sign is one, and nothing closes it
		}
		r := []rune(p)
		n := 1
		switch {
		case p[0] == '*':
			out += ".*"
		case p[0] == '?':
			out += "."
		case p[0] == '\\' && len(r) > 1:
			out += regexp.QuoteMeta(string(r[1]))
			n = 2
		case l != nil:
			out += class(l[1] != "", []rune(l[2]))
			n = len([]rune(l[0]))
		default:
			out += regexp.QuoteMeta(string(r[0]))
		}
		p = string(r[n:])
	}
	return regexp.MustCompile(out + "$")
}

func class(not bool, l []rune) string {
	in := map[rune]bool{}
	for i := 0; i < len(l); i++ {
		if i+2 < len(l) && l[i+1] == '-' {
			for r := l[i]; r <= l[i+2]; r++ {
				in[r] = true
			}
			i += 2
		} else {
			in[l[i]] = true
		}
	}
	out := "["
	for r := rune(0); r < 256; r++ {
		if in[r] != not {
			out += fmt.Sprintf(`\x{%x}`, r)
		}
	}
	if out == "[" {
		return `[^\x{0}-\x{10ffff}]`
	}
	return out + "]"
}

// seen is what the model says.
func seen(s string, scope api.Scope) (string, int, api.Errno) {
	m := &model{}
	out, e := bound(s, nil)
	if e == nil {
		out, e = m.text(tree(s), []api.Scope{scope}, 0)
	}
	var errno api.Errno
	if errors.As(e, &errno) {
		return "", 0, errno
	}
	return out, m.steps, api.OK
}

func same(t *testing.T, s string, scope api.Scope) (api.Errno, int) {
	t.Helper()
	want, steps, errno := seen(s, scope)
	got, e := Expand(s, scope)
	n, e2 := Steps(s, scope)
	if got != want || e != errno || n != steps || e2 != errno {
		t.Fatalf("%q in %.300v: %.200q %d %d %d, must be %.200q %d %d", s, scope, got, e, n, e2, want, errno, steps)
	}
	return e, n
}

// writer makes texts at random.
type writer struct {
	*rand.Rand
	worse int // one of so many choices is a bad one
}

func (w *writer) one(l ...string) string { return l[w.Intn(len(l))] }

func (w *writer) name() string {
	return w.one("x", "y", "z", "e", "f", "g", "half", "long", "a:b", "#{x}", "", "active", "window_name", "no", "1", "0", "b/")
}

func (w *writer) plain() string {
	return w.one("", "a", "b", "1", "0", "7", "-3", "2.5", "nan", "inf", "/", "a/b", "é", "中", "\xff", " ", "##", "#,", "#}", "#S", "#W", "#P", "#x", "*", "?", "[a-c]", "[!a]", "ab", ";", "|", "e", "{", "#")
}

// text is one of pieces that are expressions or plain.
func (w *writer) text(deep int) string {
	s := ""
	for range 1 + w.Intn(3) {
		if w.Intn(5) < deep {
			s += w.expression(deep - 1)
		} else {
			s += w.plain()
		}
	}
	return s
}

func (w *writer) expression(deep int) string {
	if w.Intn(w.worse) == 0 {
		return w.one("#{", "#{", "#", "}", "#{:", "#{z:}", "#{"+w.text(deep)+"}", "#{==:"+w.text(deep)+"}", "#{"+w.modifiers()+"}")
	}
	switch w.Intn(9) {
	case 0:
		return "#{" + w.name() + "}"
	case 1:
		return "#{?" + w.one(w.name(), w.text(deep)) + w.rest(deep, 2) + "}"
	case 2:
		return "#{" + w.one("==", "!=", "<", ">", "<=", ">=", "||", "&&", "m") + ":" + w.text(deep) + "," + w.text(deep) + w.rest(deep, 0) + "}"
	case 3:
		return "#{e|" + w.one("+", "-", "*", "/", "m", "==", "!=", "<", ">", "<=", ">=") + w.one("", "", "|", "|f", "|f|1", "||3", "|f|20", "|f|21", "|f|07", "|g", "|3") + ":" + w.number(deep) + "," + w.number(deep) + "}"
	case 4:
		return "#{" + w.one("S", "W", "P") + ":" + w.text(deep) + w.rest(deep, 1) + "}"
	}
	return "#{" + w.modifiers() + ":" + w.one(w.name(), w.text(deep)) + "}"
}

func (w *writer) number(deep int) string {
	return w.one("1", "2", "7", "-3", "2.5", "nan", "inf", "-0", "1e400", "#{y}", "#{f}", "#{n:half}", w.text(deep))
}

// rest is more pieces, so many most often.
func (w *writer) rest(deep, n int) string {
	s := ""
	for range max(0, n+w.Intn(3)/2-w.Intn(3)/2) {
		s += "," + w.text(deep)
	}
	return s
}

func (w *writer) modifiers() string {
	l := []string{}
	for range 1 + w.Intn(5)/2 {
		l = append(l, w.one("=3", "=-2", "=0", "=-0", "=12", "p8", "p-8", "p0", "p999", "p-193", "s/a/b/", "s/b//", "s:a:xx:", "s;a;;", "sxaxbx", "s/x/xy/", "s,/,.,", "s/#{/}/", "s\xff\xc3\xff\xfe\xff", "b", "d", "n", "w", "u", "l", "E", "E"))
	}
	if w.Intn(w.worse) == 0 {
		l = append(l, w.one("", "=", "x", "s//a/", "p1234", "=-", "bb", "s/a/b", "s"))
		w.Shuffle(len(l), func(i, k int) { l[i], l[k] = l[k], l[i] })
	}
	return strings.Join(l, ";")
}

func (w *writer) scope(deep int) api.Scope {
	s := of()
	for range w.Intn(8) {
		s.Vars = append(s.Vars, api.Pair{Name: w.name(), Value: w.one(w.plain(), w.plain(), w.text(2), "1", "0", "", strings.Repeat("ab", 2048), strings.Repeat("é", 4096), strings.Repeat("x", 8193), strings.Repeat("#{x}", 3), "#{E:x}", "#{E:y}#{W:#{z}}")})
	}
	for range w.Intn(3) * min(deep, 1) {
		l := api.Loop{Kind: w.one("S", "W", "P", "X")[0]}
		for range w.Intn(4) {
			l.Scopes = append(l.Scopes, w.scope(deep-1))
		}
		if w.Intn(50) == 0 {
			l.Scopes = append(l.Scopes, make([]api.Scope, 98+w.Intn(5))...)
		}
		s.Loops = append(s.Loops, l)
	}
	return s
}

func TestAnyTexts(t *testing.T) {
	w := &writer{rand.New(rand.NewSource(1)), 40}
	told := map[api.Errno]int{}
	for i := range 20000 {
		w.worse = 20 + i%200
		e, _ := same(t, w.text(2+w.Intn(4)), w.scope(2))
		told[e]++
	}
	often(t, told, api.OK, api.ErrForm, api.ErrLong)
}

func often(t *testing.T, told map[api.Errno]int, l ...api.Errno) {
	t.Helper()
	for _, e := range l {
		if told[e] < 50 {
			t.Error("an error that seldom comes", e, told)
		}
	}
}

// wrap puts a text into an expression that looks at it.
func (w *writer) wrap(s string) string {
	if w.Intn(6) == 0 {
		s = w.one("#{x}", "a", "##", "#{E:x}") + s
	}
	before, behind, _ := strings.Cut(w.one("#{?%,a,b}", "#{?y,%,b}", "#{?x,a,%}", "#{==:%,1}", "#{&&:1,%}", "#{u:%}", "#{E:%}", "#{n:%}", "#{W:%}", "#{W:a,%}", "#{S:%}", "#{m:*,%}", "#{e|+:%,1}", "#{l:%}"), "%")
	return before + s + behind
}

// Texts about as deep as may be.
func TestAnyDeepTexts(t *testing.T) {
	w := &writer{rand.New(rand.NewSource(6)), 40}
	told := map[api.Errno]int{}
	for range 20000 {
		s := w.one("#{x}", "#{E:x}", "#{no}", "", "#{z:}", "1")
		for range 6 + w.Intn(14) {
			s = w.wrap(s)
		}
		scope := over(of("x", w.one("0", "1", "#{y}", "#{E:y}"), "y", w.one("0", "1", "#{b:#{b:#{b:1}}}")), 'W', of("active", w.one("0", "1")))
		e, _ := same(t, s, over(scope, 'S', make([]api.Scope, w.Intn(3))...))
		told[e]++
	}
	often(t, told, api.OK, api.ErrForm, api.ErrDeep)
}

// Loops within loops, with about as many steps as may be, and about as much made as may be.
func TestAnyManySteps(t *testing.T) {
	w := &writer{rand.New(rand.NewSource(7)), 40}
	told := map[api.Errno]int{}
	for range 600 {
		inner := w.Intn(30)
		body := w.one("", "#{y}", "#{no}", "a", "#{E:y}", "#{P:,#{y}}", "#{x}")
		body = "#{W:" + body + w.one("", ",b") + "}" + w.one("", "#{y}", "#{E:y}")
		scope := over(of("x", "1", "y", w.one("", "#{x}")), 'W', make([]api.Scope, inner)...)
		scope = over(scope, 'P', of(), of("active", "1"))
		_, cost, _ := seen(body, scope)
		scope = over(scope, 'S', make([]api.Scope, 9990/(cost+1)+w.Intn(4)-2)...)
		e, _ := same(t, w.one("", "#{y}", "abc")+"#{S:"+body+"}"+w.one("", "", "#{x}", "#{"), scope)
		told[e]++
	}
	often(t, told, api.OK, api.ErrForm, api.ErrMany, api.ErrLong)
}

// Any signs one behind the other, most of them no expression at all.
func TestAnySigns(t *testing.T) {
	w := &writer{rand.New(rand.NewSource(2)), 40}
	scope := over(of("a", "1", "b", "#{a}", "?", "q", "l", "#", "", "n"), 'W', of("a", "2", "active", "1"), of("b", "3"))
	for range 200000 {
		s := ""
		for range w.Intn(14) {
			s += w.one("#", "#", "{", "}", "#{", "#{", "#{", ",", ":", ":", "a", "b", "?", "=", "1", "W:", "l", "E", ";", "s", "/", "==:", "S", "|", "e|+", "\xff")
		}
		s += strings.Repeat("}", w.Intn(3))
		same(t, s, scope)
	}
}

func TestAllShortTexts(t *testing.T) {
	scope := over(of("a", "1", "l", "#{a}"), 'W', of("a", "2"), of())
	l := []string{"#{", "}", "#", ",", ":", "a", "?", "l", "W"}
	n := 1
	for length := range 7 {
		for i := range n {
			s, k := "", i
			for range length {
				s += l[k%len(l)]
				k /= len(l)
			}
			same(t, s, scope)
		}
		n *= len(l)
	}
}

func TestAllShortPatterns(t *testing.T) {
	signs := []string{"*", "?", "[", "]", "!", "-", "a", "b", "\\"}
	texts := []string{"", "a", "b", "[", "]", "!", "-", "\\", "?", "^", "ab", "[a", "a]", "[]", "[!", "aa", "[!]", "[a-", "\\a", "-]"}
	n := 1
	for length := range 6 {
		for i := range n {
			s, k := "", i
			for range length {
				s += signs[k%len(signs)]
				k /= len(signs)
			}
			model := meaning(s)
			for _, text := range texts {
				if Match(s, text) != model.MatchString(text) {
					t.Fatalf("%q %q: %v", s, text, Match(s, text))
				}
			}
		}
		n *= len(signs)
	}
}

func TestAnyPatterns(t *testing.T) {
	w := &writer{rand.New(rand.NewSource(3)), 40}
	for range 40000 {
		pattern, s := "", ""
		for range w.Intn(9) {
			pattern += w.one("*", "*", "?", "[", "]", "!", "^", "-", "a", "b", "c", "\\", "[a-c]", "[!a]", "[^b-]", "[]a]", "\xff", "\x00", "[\x80-\xff]")
		}
		for range w.Intn(9) {
			s += w.one("a", "b", "c", "a", "b", "-", "]", "[", "!", "\xff", "\x00", "é", "*")
		}
		if Match(pattern, s) != means(pattern, s) {
			t.Fatalf("%q %q: %v", pattern, s, Match(pattern, s))
		}
	}
}

// F10.3, F10.4: what comes out is short enough, and made in few steps; doubled signs come back; texts one behind the other are their pieces.
func TestAnyProperties(t *testing.T) {
	w := &writer{rand.New(rand.NewSource(4)), 400}
	for range 20000 {
		scope := w.scope(2)
		one, two := w.text(3), w.text(3)
		a, e := Expand(one, scope)
		n, _ := Steps(one, scope)
		b, e2 := Expand(two, scope)
		n2, _ := Steps(two, scope)
		if len(a) > 8192 || n > 10000 {
			t.Fatalf("%q: %d bytes, %d steps", one, len(a), n)
		}
		if back, e := Expand(strings.ReplaceAll(one, "#", "##"), scope); back != one || e != api.OK {
			t.Fatalf("%q: %q %d", one, back, e)
		}
		if bare := strings.ReplaceAll(one, "#", ""); bare != "" {
			if back, e := Expand(bare, scope); back != bare || e != api.OK {
				t.Fatalf("%q: %q %d", bare, back, e)
			}
		}
		if strings.HasSuffix(one, "#") || e != api.OK || e2 != api.OK || len(a)+len(b) > 8192 || n+n2 > 10000 {
			continue
		}
		both, e3 := Expand(one+two, scope)
		if n3, _ := Steps(one+two, scope); both != a+b || e3 != api.OK || n3 != n+n2 {
			t.Fatalf("%q, %q: %q %d", one, two, both, e3)
		}
	}
}

// P3: what is handed in is not written into.
func TestKept(t *testing.T) {
	w := &writer{rand.New(rand.NewSource(5)), 40}
	for range 2000 {
		seed := w.Int63()
		make := func() api.Scope { return (&writer{rand.New(rand.NewSource(seed)), 40}).scope(3) }
		scope, text := make(), w.text(4)
		Expand(text, scope)
		if fmt.Sprint(scope) != fmt.Sprint(make()) {
			t.Fatal(text)
		}
	}
}
