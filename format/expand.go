package format

import (
	"strings"

	"mullion/api"
)

// made is a text that grows, up to what it may have.
type made struct{ text []byte }

func (t *made) add(s string) {
	if len(t.text)+len(s) > api.MaxFormat {
		panic(api.ErrLong)
	}
	t.text = append(t.text, s...)
}

// expand is a text expanded in scopes.
func (m *maker) expand(s string, in *scopes) string {
	var out made
	for s != "" {
		front, length := m.front(s, in)
		out.add(front)
		s = s[length:]
	}
	return string(out.text)
}

// front is what the first bytes of a text are expanded to, and how many these are.
func (m *maker) front(s string, in *scopes) (string, int) {
	if at := strings.IndexByte(s, '#'); at != 0 {
		if at < 0 {
			at = len(s)
		}
		return s[:at], at
	}
	if len(s) == 1 {
		return s, 1
	}
	name := shorthand(s[1])
	switch {
	case isMarked(s[1]):
		return s[1:2], 2
	case s[1] == '{':
		inner := s[2:]
		end := outside(inner, '}')
		if end < 0 {
			panic(api.ErrForm)
		}
		return m.express(inner[:end], in), len("#{") + end + len("}")
	case name != "":
		return in.value(name), 2
	}
	return s[:1], 1
}

// shorthand is the name that a letter behind a `#` stands for.
func shorthand(letter byte) string {
	switch letter {
	case 'S':
		return "session_name"
	case 'W':
		return "window_name"
	case 'I':
		return "window_index"
	case 'P':
		return "pane_index"
	case 'F':
		return "window_flags"
	case 'T':
		return "pane_title"
	case 'D':
		return "pane_id"
	case 'H':
		return "host"
	}
	return ""
}

// named is the value of the name that a text is, if there is one; else what the text, if it has a `#`, is expanded to.
func (m *maker) named(s string, in *scopes) string {
	if value, is := in.find(s); is {
		return value
	}
	if strings.Contains(s, "#") {
		return m.expand(s, in)
	}
	return ""
}
