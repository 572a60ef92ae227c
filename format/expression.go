package format

import (
	"strings"

	"mullion/api"
	"mullion/calc"
)

// express is what an expression makes, one deeper than what it stands in.
func (m *maker) express(c string, in *scopes) string {
	if m.deep == api.MaxDeep {
		panic(api.ErrDeep)
	}
	m.step()
	m.deep++
	text := m.byKind(c, in)
	m.deep--
	return text
}

func (m *maker) byKind(c string, in *scopes) string {
	if choice, is := strings.CutPrefix(c, "?"); is {
		return m.choose(choice, in)
	}
	at := outside(c, ':')
	if at < 0 {
		return in.value(c)
	}
	head, rest := c[:at], c[at+1:]
	switch head {
	case "==", "!=", "<", ">", "<=", ">=", "||", "&&", "m":
		return m.compare(head, rest, in)
	case "S", "W", "P":
		return m.repeat(head[0], rest, in)
	}
	if operation, is := strings.CutPrefix(head, "e|"); is {
		return m.reckon(operation, rest, in)
	}
	return m.modify(c, in)
}

func (m *maker) choose(s string, in *scopes) string {
	l := append(pieces(s, 3), "", "")
	if True(m.named(l[0], in)) {
		return m.expand(l[1], in)
	}
	return m.expand(l[2], in)
}

func (m *maker) compare(head, rest string, in *scopes) string {
	left, right := m.both(rest, in)
	if holds(head, left, right) {
		return "1"
	}
	return "0"
}

// both are two pieces, expanded.
func (m *maker) both(s string, in *scopes) (left, right string) {
	l := pieces(s, 2)
	if len(l) < 2 {
		panic(api.ErrForm)
	}
	left = m.expand(l[0], in)
	right = m.expand(l[1], in)
	return left, right
}

func holds(head, left, right string) bool {
	switch head {
	case "==":
		return left == right
	case "!=":
		return left != right
	case "<":
		return left < right
	case ">":
		return left > right
	case "<=":
		return left <= right
	case ">=":
		return left >= right
	case "||":
		return True(left) || True(right)
	case "&&":
		return True(left) && True(right)
	}
	return Match(left, right)
}

// repeat is a piece, for each scope that there is to go over expanded in it; for those that are active the second one, if there is one.
func (m *maker) repeat(kind byte, rest string, in *scopes) string {
	l := pieces(rest, 2)
	var out made
	for _, one := range in.loop(kind) {
		m.step()
		piece, alone := l[0], &scopes{Scope: one}
		if len(l) == 2 && True(alone.value("active")) {
			piece = l[1]
		}
		out.add(m.expand(piece, &scopes{Scope: one, around: in}))
	}
	return string(out.text)
}

func (m *maker) reckon(operation, rest string, in *scopes) string {
	op, floats, places := reckoning(operation)
	left, right := m.both(rest, in)
	text, errno := calc.Reckon(op, left, right, floats, places)
	if errno != api.OK {
		panic(api.ErrForm)
	}
	return text
}

// reckoning is what stands behind `e|`: an operation, perhaps f or nothing, and behind that perhaps how many places.
func reckoning(s string) (op string, floats bool, places int) {
	op, flags, _ := strings.Cut(s, "|")
	flag, digits, placed := strings.Cut(flags, "|")
	floats = flag == "f"
	switch {
	case !isOperation(op) || !floats && flag != "":
		panic(api.ErrForm)
	case placed:
		places, digits = number(digits, 2)
		if digits != "" {
			panic(api.ErrForm)
		}
	case floats:
		places = 2
	}
	return op, floats, places
}

func isOperation(op string) bool {
	_, errno := calc.Reckon(op, "1", "1", false, 0)
	return errno == api.OK
}
