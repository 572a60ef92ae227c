package format

import "strings"

// outside is where a sign first stands outside in a text, or -1. Of a `}` that is the one that closes what is around the text.
func outside(s string, sign byte) int {
	deep := 0
	for i := 0; i < len(s); i++ {
		switch {
		case deep == 0 && s[i] == sign:
			return i
		case s[i] == '}':
			deep--
		case strings.HasPrefix(s[i:], "#{"):
			deep++
		case s[i] == '#' && i+1 < len(s) && isMarked(s[i+1]):
			i++
		}
	}
	return -1
}

// isMarked tells of which signs a `#` ahead makes nothing but themselves.
func isMarked(sign byte) bool { return sign == '#' || sign == ',' || sign == '}' }

// pieces are what the outside commas of a text part; the last one of so many as may be has the rest.
func pieces(s string, most int) []string {
	var l []string
	for len(l) < most-1 {
		at := outside(s, ',')
		if at < 0 {
			break
		}
		l = append(l, s[:at])
		s = s[at+1:]
	}
	return append(l, s)
}
