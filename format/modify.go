package format

import (
	"slices"
	"strconv"
	"strings"

	"mullion/api"
	"mullion/cell"
)

// modifier is one: of `=` and `p` with how many columns, and whether it is done at the left; of `s` what is put for what.
type modifier struct {
	letter   string
	left     bool
	columns  int
	from, to string
}

// modify is a value, as the modifiers that an expression begins with make it.
func (m *maker) modify(c string, in *scopes) string {
	l, value := modifiers(c)
	if !has(l, "l") {
		value = m.named(value, in)
	}
	if has(l, "E") {
		if m.deep == api.MaxDeep {
			panic(api.ErrDeep)
		}
		value = m.expand(value, in)
	}
	for _, one := range l {
		value = short(one.apply(value))
	}
	return value
}

func has(l []modifier, letter string) bool {
	return slices.ContainsFunc(l, func(one modifier) bool { return one.letter == letter })
}

// modifiers are those that an expression begins with, and what is behind their `:`.
func modifiers(c string) ([]modifier, string) {
	var l []modifier
	for sign := ";"; sign != ":"; {
		var one modifier
		one, c = first(c)
		l = append(l, one)
		sign, c = taken(c)
		if sign != ";" && sign != ":" {
			panic(api.ErrForm)
		}
	}
	return l, c
}

// first is the modifier that a text begins with, and what is behind it.
func first(c string) (modifier, string) {
	letter, c := taken(c)
	one := modifier{letter: letter}
	switch letter {
	case "=", "p":
		c, one.left = strings.CutPrefix(c, "-")
		one.columns, c = number(c, 3)
	case "s":
		by, behind := taken(c)
		l := strings.SplitN(behind, by, 3)
		if len(l) < 3 || l[0] == "" {
			panic(api.ErrForm)
		}
		one.from, one.to, c = l[0], l[1], l[2]
	case "b", "d", "n", "w", "u", "l", "E":
	default:
		panic(api.ErrForm)
	}
	return one, c
}

// taken is a text's first byte, which must be there, and what is behind it.
func taken(s string) (front, behind string) {
	if s == "" {
		panic(api.ErrForm)
	}
	return s[:1], s[1:]
}

// number is what the digits at a text's front tell, of which one must be there and no more than so many are read, and what is behind them.
func number(s string, most int) (int, string) {
	n, length := 0, 0
	for length < min(most, len(s)) && '0' <= s[length] && s[length] <= '9' {
		n = 10*n + int(s[length]-'0')
		length++
	}
	if length == 0 {
		panic(api.ErrForm)
	}
	return n, s[length:]
}

// apply is a value, modified; l and E have been done when it is made.
func (one modifier) apply(value string) string {
	switch one.letter {
	case "=":
		if one.left {
			return cell.CutLeft(value, one.columns)
		}
		return cell.Cut(value, one.columns)
	case "p":
		blanks := strings.Repeat(" ", max(0, one.columns-cell.Columns(value)))
		if one.left {
			return blanks + value
		}
		return value + blanks
	case "s":
		return strings.ReplaceAll(value, one.from, one.to)
	case "b":
		return value[strings.LastIndexByte(value, '/')+1:]
	case "d":
		return ahead(value)
	case "n":
		return strconv.Itoa(len(value))
	case "w":
		return strconv.Itoa(cell.Columns(value))
	case "u":
		return upper(value)
	}
	return value
}

// ahead is what is ahead of the last `/`, as of a folder.
func ahead(path string) string {
	switch at := strings.LastIndexByte(path, '/'); at {
	case -1:
		return "."
	case 0:
		return "/"
	default:
		return path[:at]
	}
}

// upper leaves all bytes but a to z as they are, also those that are no text.
func upper(s string) string {
	l := []byte(s)
	for i, b := range l {
		if 'a' <= b && b <= 'z' {
			l[i] = b - 'a' + 'A'
		}
	}
	return string(l)
}
