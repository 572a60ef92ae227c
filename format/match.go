package format

import "strings"

// Match matches a text against a pattern with * ? [].
func Match(pattern, s string) bool {
	l := compile(pattern)
	at, star, from := 0, -1, 0 // the part that is next; the last star, and where in the text what is behind it begins
	for i := 0; i < len(s); {
		switch {
		case at < len(l) && l[at].star:
			star, from = at, i
			at++
		case at < len(l) && l[at].bytes.has(s[i]):
			at++
			i++
		case star >= 0: // the star means one byte more
			from++
			at, i = star+1, from
		default:
			return false
		}
	}
	for at < len(l) && l[at].star {
		at++
	}
	return at == len(l)
}

// part is a piece of a pattern: any bytes, or one of some.
type part struct {
	star  bool
	bytes set
}

// set is bytes, a bit each.
type set [4]uint64

func (s *set) has(b byte) bool { return s[b/64]>>(b%64)&1 == 1 }

// put makes bytes, from low to high, members.
func (s *set) put(low, high byte) {
	for b := int(low); b <= int(high); b++ {
		s[b/64] |= 1 << (b % 64)
	}
}

// others are the bytes that are no members.
func (s set) others() set { return set{^s[0], ^s[1], ^s[2], ^s[3]} }

// compile reads a pattern once, so that matching looks at no bracket twice.
func compile(pattern string) []part {
	var l []part
	last := strings.LastIndexByte(pattern, ']')
	for i := 0; i < len(pattern); i++ {
		var one part
		switch pattern[i] {
		case '*':
			one.star = true
		case '?':
			one.bytes = set{}.others()
		case '[':
			one.bytes, i = bracket(pattern, i, last)
		case '\\':
			i = min(i+1, len(pattern)-1)
			fallthrough
		default:
			one.bytes.put(pattern[i], pattern[i])
		}
		l = append(l, one)
	}
	return l
}

// bracket is what the `[` at a place means, and where it ends; last is where the pattern's last `]` is, if there is one.
func bracket(pattern string, at, last int) (set, int) {
	begin := at + 1
	not := begin < len(pattern) && (pattern[begin] == '!' || pattern[begin] == '^')
	if not {
		begin++
	}
	var bytes set
	if last <= begin { // no `]` closes it
		bytes.put('[', '[')
		return bytes, at
	}
	end := begin
	for ; end == begin || pattern[end] != ']'; end++ {
		low := pattern[end]
		high := low
		if pattern[end+1] == '-' && pattern[end+2] != ']' {
			high = pattern[end+2]
			end += 2
		}
		bytes.put(low, high)
	}
	if not {
		bytes = bytes.others()
	}
	return bytes, end
}
